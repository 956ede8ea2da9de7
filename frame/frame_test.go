package frame

import (
	"encoding/binary"
	"errors"
	"math"
	"math/rand"
	"slices"
	"strings"
	"testing"

	"quitrent/api"
	"quitrent/block"
	"quitrent/sum"
)

const maxInt32 = 1<<31 - 1

var allErrors = []error{
	api.ErrArg, api.ErrNil, api.ErrForm, api.ErrOver, api.ErrNone, api.ErrDup, api.ErrFull,
	api.ErrQuota, api.ErrCeil, api.ErrRoom, api.ErrBudget, api.ErrFunds, api.ErrState, api.ErrDown,
}

// isOnly checks that err is want, and no other error of package api.
func isOnly(t *testing.T, err, want error) {
	t.Helper()
	for _, e := range allErrors {
		if errors.Is(err, e) != (e == want) {
			t.Errorf("error %v: want %v only", err, want)
		}
	}
}

// zero is a block that was never written.
var zero = strings.Repeat("\x00", 64)

// text is n bytes of all values, none of them like the one before it.
func text(n int) string {
	b := make([]byte, n)
	for i := range b {
		b[i] = byte(i*7 + i/256 + 1)
	}
	return string(b)
}

// texts are strings of all sorts, of every length beside which a frame gets
// another block among them.
func texts() []string {
	list := []string{"", "\x00", "a", "\xff", "quitrent", "\xc3\x28", "\U0001f600", strings.Repeat("\x00", 49), strings.Repeat("\xff", 200)}
	for _, n := range []int{47, 48, 49, 60, 103, 104, 105, 160, 161, 1000, 5983, 5984, 5985, 5999, 6000} {
		list = append(list, text(n), strings.Repeat("\x00", n))
	}
	return list
}

// seqs are numbers that a frame may have; those with which a byte of the
// trailer is 0, or is at its greatest, are among them.
var seqs = []int{1, 2, 127, 128, 255, 256, 257, 258, 65535, 65536, 1 << 24, 1 << 30, maxInt32 - 1, maxInt32}

// payload is the payload of a text, as the chapter says, padded to n blocks.
func payload(length, check uint32, data string, n int) string {
	b := binary.LittleEndian.AppendUint32(nil, length)
	b = binary.LittleEndian.AppendUint32(b, check)
	b = append(b, data...)
	for len(b) < n*56 {
		b = append(b, 0)
	}
	return string(b)
}

// tail is the bytes of a trailer.
func tail(seq uint32, index, count int) string {
	b := binary.LittleEndian.AppendUint32(nil, seq)
	b = binary.LittleEndian.AppendUint16(b, uint16(index))
	return string(binary.LittleEndian.AppendUint16(b, uint16(count)))
}

// rows is the blocks of a payload, each with a valid trailer.
func rows(seq int, payload string) []string {
	var list []string
	n := len(payload) / 56
	for i := range n {
		list = append(list, payload[i*56:(i+1)*56]+tail(uint32(seq), i, n))
	}
	return list
}

// count is how many blocks n bytes need, counted block by block.
func count(n int) int {
	blocks := 0
	for left := n + 8; left > 0; left -= 56 {
		blocks++
	}
	return blocks
}

// blocksOf makes the blocks of a frame that can be.
func blocksOf(t *testing.T, seq int, data string) []string {
	t.Helper()
	blocks, err := Blocks(seq, data)
	if err != nil {
		t.Fatalf("Blocks(%d, %d bytes): %v", seq, len(data), err)
	}
	return blocks
}

// reads checks that blocks begin with this frame.
func reads(t *testing.T, blocks []string, data string, seq int) {
	t.Helper()
	was := slices.Clone(blocks)
	gotData, gotSeq, n, err := Read(blocks)
	if err != nil || gotData != data || gotSeq != seq || n != count(len(data)) {
		t.Errorf("Read is %q, %d, %d, %v; want %q, %d, %d", gotData, gotSeq, n, err, data, seq, count(len(data)))
	}
	if !slices.Equal(blocks, was) {
		t.Error("Read changed the blocks")
	}
}

// fails checks that blocks don't begin with a frame, and which block tells so.
func fails(t *testing.T, blocks []string, at int) {
	t.Helper()
	data, seq, n, err := Read(blocks)
	if data != "" || seq != 0 || n != 0 {
		t.Errorf("Read is %q, %d, %d beside %v", data, seq, n, err)
	}
	isOnly(t, err, api.ErrForm)
	var f *api.Fault
	if !errors.As(err, &f) {
		t.Errorf("error %v: has no Fault", err)
		return
	}
	if f.Op != "frame" || f.At != at || f.Err != api.ErrForm {
		t.Errorf("the Fault is %v; want frame %d: %v", f, at, api.ErrForm)
	}
}

// with is blocks with another one at a place.
func with(blocks []string, at int, s string) []string {
	list := slices.Clone(blocks)
	list[at] = s
	return list
}

// put is s with other bytes at a place.
func put(s string, at int, with string) string {
	return s[:at] + with + s[at+len(with):]
}

// P5.1

func TestSize(t *testing.T) {
	if MaxData != 6000 {
		t.Errorf("MaxData is %d", MaxData)
	}
	for _, c := range []struct{ n, want int }{
		{0, 1}, {1, 1}, {47, 1}, {48, 1}, {49, 2}, {103, 2}, {104, 2}, {105, 3}, {5983, 107}, {5984, 107}, {5985, 108},
		{6000, 108}, {6001, 108}, {6040, 108}, {6041, 109}, {1 << 20, 18725},
	} {
		if got := Size(strings.Repeat("x", c.n)); got != c.want {
			t.Errorf("the size of %d bytes is %d, want %d", c.n, got, c.want)
		}
	}
	for n := range 7000 {
		if got := Size(strings.Repeat("\x00", n)); got != count(n) {
			t.Fatalf("the size of %d bytes is %d, want %d", n, got, count(n))
		}
	}
}

func TestBlocks(t *testing.T) {
	for _, data := range texts() {
		for _, seq := range seqs {
			got := blocksOf(t, seq, data)
			n := count(len(data))
			want := rows(seq, payload(uint32(len(data)), sum.Of(data), data, n))
			if len(got) != n || Size(data) != n || !slices.Equal(got, want) {
				t.Errorf("Blocks(%d, %q) is %q, want %q", seq, data, got, want)
			}
		}
	}
}

func TestBlocksByteForByte(t *testing.T) {
	want := "\x01\x00\x00\x00" + "\x63\x01\x00\x00" + "a" + strings.Repeat("\x00", 47) + "\x04\x03\x02\x01" + "\x00\x00" + "\x01\x00"
	if got := blocksOf(t, 0x01020304, "a"); len(got) != 1 || got[0] != want {
		t.Errorf("%q, want %q", got, want)
	}
	want = "\x00\x00\x00\x00" + "\x01\x00\x00\x00" + strings.Repeat("\x00", 48) + "\xff\xff\xff\x7f" + "\x00\x00" + "\x01\x00"
	if got := blocksOf(t, maxInt32, ""); len(got) != 1 || got[0] != want {
		t.Errorf("%q, want %q", got, want)
	}
	last := blocksOf(t, 1, strings.Repeat("x", MaxData))[107]
	if want := strings.Repeat("x", 16) + strings.Repeat("\x00", 40) + "\x01\x00\x00\x00" + "\x6b\x00" + "\x6c\x00"; last != want {
		t.Errorf("%q, want %q", last, want)
	}
}

func TestBlocksFails(t *testing.T) {
	long := strings.Repeat("x", MaxData+1)
	for _, c := range []struct {
		seq  int
		data string
	}{
		{0, ""}, {0, "a"}, {-1, "a"}, {math.MinInt, "a"}, {-maxInt32, "a"}, {maxInt32 + 1, "a"}, {1 << 32, "a"}, {1<<32 + 1, "a"},
		{math.MaxInt, "a"}, {1, long}, {maxInt32, long}, {1, strings.Repeat("x", 6040)}, {1, strings.Repeat("x", 1<<17)}, {0, long},
	} {
		blocks, err := Blocks(c.seq, c.data)
		isOnly(t, err, api.ErrArg)
		var f *api.Fault
		if errors.As(err, &f) || len(blocks) != 0 {
			t.Errorf("Blocks(%d, %d bytes) is %q, %v", c.seq, len(c.data), blocks, err)
		}
	}
}

func TestBlocksAreNew(t *testing.T) {
	data := text(100)
	a, b := blocksOf(t, 1, data), blocksOf(t, 1, data)
	a[0] = "x"
	_ = append(a[:1], "y")
	if b[0] == "x" || b[1] == "y" || blocksOf(t, 1, data)[0] == "x" {
		t.Error("two results share memory")
	}
}

// P5.2

func TestRead(t *testing.T) {
	for _, data := range texts() {
		for _, seq := range seqs {
			blocks := blocksOf(t, seq, data)
			reads(t, blocks, data, seq)
			for _, rest := range [][]string{{""}, {"rest"}, {zero}, blocks, {strings.Repeat("\xff", 64), ""}} {
				reads(t, append(slices.Clone(blocks), rest...), data, seq)
			}
		}
	}
}

func TestReadOfEachLength(t *testing.T) {
	for n := range MaxData + 1 {
		data := text(n)
		blocks := blocksOf(t, n+1, data)
		if got, seq, size, err := Read(blocks); got != data || seq != n+1 || size != len(blocks) || err != nil {
			t.Fatalf("%d bytes: Read is %q, %d, %d, %v", n, got, seq, size, err)
		}
	}
}

func TestReadWithoutBlocks(t *testing.T) {
	fails(t, nil, 0)
	fails(t, []string{}, 0)
	fails(t, blocksOf(t, 1, "a")[:0], 0)
}

func TestBlockIsMissing(t *testing.T) {
	for _, n := range []int{49, 200, 6000} {
		blocks := blocksOf(t, 7, text(n))
		for have := range blocks {
			fails(t, blocks[:have], have)
			// A block that is left out has the next one in its place.
			fails(t, slices.Delete(slices.Clone(blocks), have, have+1), have)
		}
	}
}

func TestBlockHasNotAllBytes(t *testing.T) {
	blocks := blocksOf(t, 7, text(200))
	for at, s := range blocks {
		for _, bad := range []string{"", "x", s[:63], s[1:], s + "\x00", "\x00" + s, s + s, s[:56], s[56:]} {
			fails(t, with(blocks, at, bad), at)
		}
	}
}

func TestFirstTrailerIsInvalid(t *testing.T) {
	for _, data := range []string{"", "abc", text(100), text(6000)} {
		blocks := blocksOf(t, 7, data)
		n := len(blocks)
		for _, seq := range []uint32{0, 1 << 31, 1<<31 + 7, math.MaxUint32} {
			fails(t, with(blocks, 0, blocks[0][:56]+tail(seq, 0, n)), 0)
		}
		for _, index := range []int{1, 2, n, 107, 255, 256, 65535} {
			fails(t, with(blocks, 0, blocks[0][:56]+tail(7, index, n)), 0)
		}
		for _, size := range []int{0, 109, 110, 255, 256, 256 + n, 65535} {
			fails(t, with(blocks, 0, blocks[0][:56]+tail(7, 0, size)), 0)
		}
	}
}

func TestFirstTrailerIsOfAllBlocks(t *testing.T) {
	// With trailers that agree, only the first one's own limits can tell.
	data := text(100)
	whole := payload(uint32(len(data)), sum.Of(data), data, 2)
	for _, c := range []struct {
		seq uint32
		bad bool
	}{{0, true}, {1, false}, {maxInt32, false}, {1 << 31, true}, {math.MaxUint32, true}} {
		blocks := []string{whole[:56] + tail(c.seq, 0, 2), whole[56:] + tail(c.seq, 1, 2)}
		if c.bad {
			fails(t, blocks, 0)
		} else {
			reads(t, blocks, data, int(c.seq))
		}
	}
	for _, n := range []int{109, 110, 200, 256, 300} {
		fails(t, rows(1, payload(6000, sum.Of(text(6000)), text(6000), n)), 0)
		long := text(n*56 - 8)
		fails(t, rows(1, payload(uint32(len(long)), sum.Of(long), long, n)), 0)
	}
}

func TestOtherTrailerIsInvalid(t *testing.T) {
	for _, n := range []int{100, 6000} {
		blocks := blocksOf(t, 7, text(n))
		size := len(blocks)
		for at := 1; at < size; at++ {
			part := blocks[at][:56]
			for _, bad := range []string{
				tail(6, at, size), tail(8, at, size), tail(0, at, size), tail(7+1<<31, at, size), tail(7<<8, at, size),
				tail(7, at-1, size), tail(7, at+1, size), tail(7, at+256, size), tail(7, 65535, size),
				tail(7, at, size-1), tail(7, at, size+1), tail(7, at, 0), tail(7, at, size+256), zero[:8],
			} {
				fails(t, with(blocks, at, part+bad), at)
				// The block behind it is wrong as well: the first one is told.
				fails(t, with(blocks, at, part+bad)[:at+1], at)
			}
		}
	}
}

func TestBlocksOfAnotherFrame(t *testing.T) {
	data := text(160)
	old, young := blocksOf(t, 7, data), blocksOf(t, 8, data)
	long := blocksOf(t, 7, text(161))
	for at := 1; at < len(old); at++ {
		fails(t, append(slices.Clone(young[:at]), old[at:]...), at)
		fails(t, append(slices.Clone(old[:at]), long[at:]...), at)
	}
	// Where trailers agree, the checksum tells.
	other := blocksOf(t, 7, "x"+data[1:len(data)-1]+"x")
	for at := 1; at < len(old); at++ {
		fails(t, append(slices.Clone(old[:at]), other[at:]...), 0)
		fails(t, append(slices.Clone(other[:at]), old[at:]...), 0)
	}
}

func TestTrailerIsToldAheadOfThePayload(t *testing.T) {
	blocks := blocksOf(t, 7, text(200))
	bad := with(blocks, 0, "x"+blocks[0][1:])
	fails(t, bad, 0)
	for at := 1; at < len(blocks); at++ {
		fails(t, bad[:at], at)
		fails(t, with(bad, at, zero), at)
	}
}

func TestPayloadIsInvalid(t *testing.T) {
	for _, c := range []struct {
		length uint32
		data   string
		n      int
	}{
		// The length is that of a text with another number of blocks.
		{3, "abc", 2}, {3, "abc", 108}, {0, "", 2}, {48, text(48), 2}, {49, text(48), 1}, {104, text(104), 3}, {6000, text(100), 2},
		{49, text(104), 3}, {105, text(104), 2},
		// The length is greater than that of any frame, even where the blocks
		// would hold it.
		{6001, text(6001), 108}, {6040, text(6040), 108}, {6041, text(6040), 108},
		{1 << 31, "abc", 1}, {math.MaxUint32, "abc", 1}, {math.MaxUint32 - 7, "", 1}, {1<<32 - 56, "", 1}, {1<<32 - 8, "abc", 1},
	} {
		fails(t, rows(7, payload(c.length, sum.Of(c.data), c.data, c.n)), 0)
	}
	for _, data := range []string{"", "a", text(40), text(100), text(6000)} {
		n := count(len(data))
		length, check := uint32(len(data)), sum.Of(data)
		good := payload(length, check, data, n)
		reads(t, rows(7, good), data, 7)
		for _, c := range []uint32{check + 1, check - 1, check ^ 1<<31, check ^ 1<<16, 0, ^check} {
			fails(t, rows(7, payload(length, c, data, n)), 0)
		}
		for at := 8 + len(data); at < len(good); at++ {
			for _, b := range []string{"\x01", " ", "\x80", "\xff"} {
				fails(t, rows(7, put(good, at, b)), 0)
			}
		}
		// With a length of one more, the padding's first byte would be the text's.
		fails(t, rows(7, payload(length+1, check, data, n)), 0)
		if length > 0 {
			fails(t, rows(7, payload(length-1, check, data, n)), 0)
			// Here the checksum is right: the padding alone tells.
			fails(t, rows(7, payload(length-1, sum.Of(data[:length-1]), data, n)), 0)
		}
	}
}

func TestPaddingMayLookLikeText(t *testing.T) {
	// Zeros at the end of a text are not its padding.
	a, b := blocksOf(t, 7, "a"), blocksOf(t, 7, "a\x00")
	if slices.Equal(a, b) {
		t.Error("two texts have the same blocks")
	}
	reads(t, a, "a", 7)
	reads(t, b, "a\x00", 7)
}

// TestEachOtherByte has each byte of a frame take each other value.
func TestEachOtherByte(t *testing.T) {
	for _, n := range []int{0, 20, 60, 120} {
		data := text(n)
		blocks := blocksOf(t, 258, data)
		for at, s := range blocks {
			for i := range s {
				for b := range 256 {
					if byte(b) != s[i] {
						otherByte(t, blocks, data, at, i, byte(b))
					}
				}
			}
		}
		if t.Failed() {
			return
		}
	}
}

func otherByte(t *testing.T, blocks []string, data string, at, i int, b byte) {
	t.Helper()
	size := len(blocks)
	other := with(blocks, at, put(blocks[at], i, string([]byte{b})))
	seq := binary.LittleEndian.Uint32([]byte(other[0][56:]))
	index := binary.LittleEndian.Uint16([]byte(other[0][60:]))
	n := int(binary.LittleEndian.Uint16([]byte(other[0][62:])))
	switch {
	case i < 56:
		fails(t, other, 0)
	case at > 0:
		fails(t, other, at)
	case seq == 0 || seq > maxInt32 || index != 0 || n == 0 || n > 108:
		fails(t, other, 0)
	case size == 1 && n == 1:
		// Nothing holds against the number of a frame of one block.
		reads(t, other, data, int(seq))
	case n == 1:
		fails(t, other, 0)
	default:
		fails(t, other, 1)
	}
}

// plan does what P5.2 says of Read, the plain way.
func plan(blocks []string) (string, int, int, int) {
	n, seq := 1, 0
	for i := 0; i < n; i++ {
		if i >= len(blocks) || len(blocks[i]) != 64 {
			return "", 0, 0, i
		}
		t := []byte(blocks[i][56:])
		if i == 0 {
			seq = int(binary.LittleEndian.Uint32(t))
			n = int(binary.LittleEndian.Uint16(t[6:]))
			if seq < 1 || seq > maxInt32 || n < 1 || n > 108 {
				return "", 0, 0, 0
			}
		}
		if string(t) != tail(uint32(seq), i, n) {
			return "", 0, 0, i
		}
	}
	all := ""
	for _, s := range blocks[:n] {
		all += s[:56]
	}
	length := int(binary.LittleEndian.Uint32([]byte(all)))
	if length > 6000 || count(length) != n {
		return "", 0, 0, 0
	}
	data := all[8 : 8+length]
	if all != payload(uint32(length), sum.Of(data), data, n) {
		return "", 0, 0, 0
	}
	return data, seq, n, -1
}

func TestAnyBlocks(t *testing.T) {
	for seed := range 4000 {
		r := rand.New(rand.NewSource(int64(seed)))
		blocks := blocksOf(t, 1+r.Intn(3), text(r.Intn(200)))
		for range r.Intn(4) {
			at := r.Intn(len(blocks))
			switch r.Intn(6) {
			case 0:
				blocks = append(blocks, blocksOf(t, 1+r.Intn(3), text(r.Intn(200)))...)
			case 1:
				blocks[at] = blocks[at][:r.Intn(len(blocks[at])+1)]
			case 2:
				blocks = blocks[at:]
			case 3:
				blocks[at] = blocks[at][:56*len(blocks[at])/64] + tail(uint32(r.Intn(3)), r.Intn(4), r.Intn(5))
			case 4:
				blocks[at] = zero
			default:
				i := r.Intn(64)
				if len(blocks[at]) == 64 {
					blocks[at] = put(blocks[at], i, string([]byte{byte(r.Intn(256))}))
				}
			}
		}
		if data, seq, n, at := plan(blocks); at >= 0 {
			fails(t, blocks, at)
		} else if gotData, gotSeq, gotN, err := Read(blocks); gotData != data || gotSeq != seq || gotN != n || err != nil {
			t.Errorf("Read is %q, %d, %d, %v; want %q, %d, %d", gotData, gotSeq, gotN, err, data, seq, n)
		}
		if t.Failed() {
			t.Fatal("seed ", seed)
		}
	}
}

func TestFaultsAreApart(t *testing.T) {
	_, _, _, err := Read(nil)
	var f *api.Fault
	if !errors.As(err, &f) {
		t.Fatal(err)
	}
	*f = api.Fault{Op: "x", At: 9, Err: api.ErrNone}
	fails(t, nil, 0)
}

// P5.3

// on returns all blocks of a disk.
func on(t *testing.T, d *block.Disk) []string {
	t.Helper()
	var list []string
	for at := range d.Len() {
		s, err := d.Read(at)
		if err != nil {
			t.Fatal(err)
		}
		list = append(list, s)
	}
	return list
}

// tear writes blocks over zeros in an order, of which the write behind n
// others is torn, and returns what is on the disk.
func tear(t *testing.T, blocks []string, order []int, n, torn int) []string {
	t.Helper()
	d := block.New(len(blocks))
	d.Fuse(n, torn)
	for _, at := range order {
		if d.Write(at, blocks[at]) != nil {
			break
		}
	}
	d.Come()
	return on(t, d)
}

func TestTornFrame(t *testing.T) {
	for _, data := range []string{"", "\x00", "a", text(48), text(49), text(104), text(150), strings.Repeat("\x00", 100), strings.Repeat("\x00", 160)} {
		for _, seq := range []int{1, 256, 1 << 24, maxInt32} {
			blocks := blocksOf(t, seq, data)
			up, down := make([]int, len(blocks)), make([]int, len(blocks))
			for i := range blocks {
				up[i], down[len(blocks)-1-i] = i, i
			}
			for n := range blocks {
				for torn := range 65 {
					isTorn(t, tear(t, blocks, up, n, torn), blocks, data, seq)
					isTorn(t, tear(t, blocks, down, n, torn), blocks, data, seq)
				}
			}
			isTorn(t, tear(t, blocks, up, -1, 0), blocks, data, seq)
		}
	}
}

// isTorn checks that a frame is read only if it is whole.
func isTorn(t *testing.T, got, blocks []string, data string, seq int) {
	t.Helper()
	for at, s := range got {
		if s != blocks[at] {
			fails(t, got, at)
			return
		}
	}
	reads(t, got, data, seq)
}

func TestTornWriteIsWholeOnlyAtTheEnd(t *testing.T) {
	for _, data := range []string{"", "a", text(150), text(6000)} {
		blocks := blocksOf(t, 7, data)
		last := len(blocks) - 1
		for torn := range 65 {
			got := with(blocks, last, blocks[last][:torn]+zero[torn:])
			// The last byte of a trailer is 0 anyhow, the one before it never.
			if torn < 63 {
				fails(t, got, last)
			} else {
				reads(t, got, data, 7)
			}
		}
	}
}

func TestTornLongFrame(t *testing.T) {
	data := text(MaxData)
	blocks := blocksOf(t, 1<<30, data)
	order := make([]int, len(blocks))
	for i := range order {
		order[i] = i
	}
	for n := range blocks {
		for _, torn := range []int{0, 1, 55, 56, 60, 62, 63, 64} {
			isTorn(t, tear(t, blocks, order, n, torn), blocks, data, 1<<30)
		}
	}
}

func TestExample(t *testing.T) {
	blocks := blocksOf(t, 1, "a")
	if len(blocks) != 1 || Size("a") != 1 {
		t.Errorf("%d blocks, a size of %d", len(blocks), Size("a"))
	}
	reads(t, blocks, "a", 1)
}
