package region

import (
	"errors"
	"slices"
	"strings"
	"testing"

	"quitrent/api"
	"quitrent/block"
)

const size = api.BlockSize

func zeros(n int) string { return strings.Repeat("\x00", n*size) }

// row is a block of each of these bytes.
func row(bytes string) []string {
	var blocks []string
	for i := range len(bytes) {
		blocks = append(blocks, strings.Repeat(bytes[i:i+1], size))
	}
	return blocks
}

func isImage(t *testing.T, d *block.Disk, want []string) {
	t.Helper()
	if d.Image() != strings.Join(want, "") {
		t.Errorf("the image is %q; want %q", d.Image(), want)
	}
}

// off takes the power of a disk away, and changes nothing else.
func off(d *block.Disk) {
	d.Fuse(0, 0)
	d.Write(0, zeros(1))
}

func TestRead(t *testing.T) {
	all := row("abcde")
	d := block.Of(strings.Join(all, ""))
	for from := range 6 {
		for to := range 6 {
			var want []string
			if from < to {
				want = all[from:to]
			}
			if got, err := Read(d, from, to); err != nil || !slices.Equal(got, want) {
				t.Errorf("Read(%d, %d): %q, %v", from, to, got, err)
			}
		}
	}
}

func TestWrite(t *testing.T) {
	d := block.New(5)
	if err := Write(d, 1, row("abc")); err != nil {
		t.Fatal(err)
	}
	isImage(t, d, row("\x00abc\x00"))
	d.Fuse(2, 0)
	if err := Write(d, 0, row("vwxyz")); !errors.Is(err, api.ErrDown) {
		t.Error(err)
	}
	isImage(t, d, row("vwbc\x00"))
}

func TestWipe(t *testing.T) {
	d := block.Of(strings.Join(row("a\x00bcd\x00"), ""))
	if err := Wipe(d, 1, 4); err != nil {
		t.Fatal(err)
	}
	isImage(t, d, row("a\x00\x00\x00d\x00"))
	if d.Writes() != 2 {
		t.Errorf("Wipe wrote %d blocks; want 2", d.Writes())
	}
}

// TestWipeLooksAtAllBytes has blocks with but one byte to wipe.
func TestWipeLooksAtAllBytes(t *testing.T) {
	for i := range size {
		d := block.Of(zeros(1)[:i] + "x" + zeros(1)[i+1:])
		if err := Wipe(d, 0, 1); err != nil || d.Image() != zeros(1) {
			t.Errorf("byte %d: %q, %v", i, d.Image(), err)
		}
	}
}

func TestWipeAscending(t *testing.T) {
	for n := range 3 {
		d := block.Of(strings.Join(row("abc"), ""))
		d.Fuse(n, 0)
		if err := Wipe(d, 0, 3); !errors.Is(err, api.ErrDown) {
			t.Errorf("torn at %d: %v", n, err)
		}
		isImage(t, d, row("\x00\x00\x00"[:n]+"abc"[n:]))
	}
}

func TestFails(t *testing.T) {
	without := block.New(4)
	off(without)
	for _, c := range []struct {
		d        *block.Disk
		from, to int
		want     error
	}{
		{nil, 0, 1, api.ErrNil},
		{block.New(4), -1, 1, api.ErrArg},
		{block.New(4), 3, 5, api.ErrArg},
		{without, 1, 3, api.ErrDown},
	} {
		blocks, err := Read(c.d, c.from, c.to)
		if len(blocks) != 0 || !errors.Is(err, c.want) {
			t.Errorf("Read(%d, %d): %q, %v; want %v", c.from, c.to, blocks, err, c.want)
		}
		if err := Write(c.d, c.from, row("ab")); !errors.Is(err, c.want) {
			t.Errorf("Write(%d): %v; want %v", c.from, err, c.want)
		}
		if err := Wipe(c.d, c.from, c.to); !errors.Is(err, c.want) {
			t.Errorf("Wipe(%d, %d): %v; want %v", c.from, c.to, err, c.want)
		}
	}
}
