// Package region reads, writes and wipes rows of blocks of a disk, for the layers that keep texts there.
package region

import (
	"strings"

	"quitrent/api"
	"quitrent/block"
)

// Read returns the blocks from one up to another, without the latter; ErrNil,
// ErrArg, ErrDown.
func Read(d *block.Disk, from, to int) ([]string, error) {
	var blocks []string
	for at := from; at < to; at++ {
		s, err := d.Read(at)
		if err != nil {
			return nil, err
		}
		blocks = append(blocks, s)
	}
	return blocks, nil
}

// Write lays blocks from one on, in ascending order; ErrNil, ErrArg, ErrDown.
func Write(d *block.Disk, from int, blocks []string) error {
	for i, s := range blocks {
		if err := d.Write(from+i, s); err != nil {
			return err
		}
	}
	return nil
}

// Wipe makes the blocks from one up to another zeros, in ascending order. It
// passes over those that are zeros already; ErrNil, ErrArg, ErrDown.
func Wipe(d *block.Disk, from, to int) error {
	zeros := strings.Repeat("\x00", api.BlockSize)
	for at := from; at < to; at++ {
		s, err := d.Read(at)
		if err != nil {
			return err
		}
		if s == zeros {
			continue
		}
		if err := d.Write(at, zeros); err != nil {
			return err
		}
	}
	return nil
}
