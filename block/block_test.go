package block

import (
	"errors"
	"math"
	"math/rand"
	"strings"
	"testing"

	"quitrent/api"
)

const size = api.BlockSize

var allErrors = []error{
	api.ErrArg, api.ErrNil, api.ErrForm, api.ErrOver, api.ErrNone, api.ErrDup, api.ErrFull,
	api.ErrQuota, api.ErrCeil, api.ErrRoom, api.ErrBudget, api.ErrFunds, api.ErrState, api.ErrDown,
}

// isOnly checks that err is want, no other error of package api, and no Fault.
func isOnly(t *testing.T, err, want error) {
	t.Helper()
	if (err == nil) != (want == nil) {
		t.Errorf("error %v: want %v", err, want)
	}
	for _, e := range allErrors {
		if errors.Is(err, e) != (e == want) {
			t.Errorf("error %v: want %v only", err, want)
		}
	}
	var f *api.Fault
	if errors.As(err, &f) {
		t.Errorf("error %v: has a Fault", err)
	}
}

// fails checks both results of a Read that doesn't succeed.
func fails(t *testing.T, d *Disk, at int, want error) {
	t.Helper()
	s, err := d.Read(at)
	isOnly(t, err, want)
	if s != "" {
		t.Errorf("read %q beside the error %v", s, err)
	}
}

// reads checks what a block has.
func reads(t *testing.T, d *Disk, at int, want string) {
	t.Helper()
	if s, err := d.Read(at); err != nil || s != want {
		t.Errorf("block %d is %q, %v; want %q", at, s, err, want)
	}
}

// writes makes a Write that is to succeed.
func writes(t *testing.T, d *Disk, at int, s string) {
	t.Helper()
	if err := d.Write(at, s); err != nil {
		t.Fatalf("write of block %d: %v", at, err)
	}
}

// isDisk checks all that can be told of a disk at any time.
func isDisk(t *testing.T, d *Disk, image string, isOn bool, whole int) {
	t.Helper()
	if got := d.Image(); got != image {
		t.Errorf("the image is %q, want %q", got, image)
	}
	if got := d.Len(); got != len(image)/size {
		t.Errorf("%d blocks, want %d", got, len(image)/size)
	}
	if d.IsOn() != isOn || d.Writes() != whole {
		t.Errorf("power %t, %d writes; want %t, %d", d.IsOn(), d.Writes(), isOn, whole)
	}
}

// full is a block of the bytes b.
func full(b byte) string { return strings.Repeat(string([]byte{b}), size) }

// mixed is a block of which no byte is like the same byte of another mixed
// block; first is below 256 - size.
func mixed(first int) string {
	b := make([]byte, size)
	for i := range b {
		b[i] = byte(first + i)
	}
	return string(b)
}

// three is a disk of three blocks that differ in each byte.
func three() *Disk { return Of(mixed(0) + mixed(1) + mixed(2)) }

// noBlock are places that a disk of n blocks doesn't have; those at which the
// byte's place would wrap round are among them.
func noBlock(n int) []int {
	return []int{
		-1, n, n + 1, -n - 1, math.MinInt, math.MaxInt, math.MinInt + 1, api.MaxBlocks,
		1 << 58, 1<<58 + 1, 1 << 57, -1 << 58, -1 << 57,
	}
}

// noContent are texts that no block has.
func noContent() []string {
	return []string{"", "z", full('z')[1:], full('z') + "z", full('z') + full('z'), strings.Repeat("z", 6000)}
}

// P4.1

func TestNew(t *testing.T) {
	for _, c := range []struct{ n, want int }{
		{1, 1}, {3, 3}, {0, 0}, {-1, 0}, {math.MinInt, 0}, {api.MaxBlocks - 1, 4095}, {api.MaxBlocks, 4096},
		{api.MaxBlocks + 1, 4096}, {1 << 58, 4096}, {math.MaxInt, 4096},
	} {
		isDisk(t, New(c.n), strings.Repeat("\x00", c.want*64), true, 0)
	}
}

func TestOf(t *testing.T) {
	for _, n := range []int{0, 1, 2, 5} {
		image := ""
		for i := range n {
			image += mixed(i)
		}
		for _, rest := range []string{"", "x", "\x00", full('y')[1:]} {
			isDisk(t, Of(image+rest), image, true, 0)
		}
	}
	for _, image := range []string{"\x00", full('x')[1:]} {
		isDisk(t, Of(image), "", true, 0)
	}
}

func TestOfTakesTheFirstBlocks(t *testing.T) {
	whole := mixed(0) + strings.Repeat(full('m'), api.MaxBlocks-2) + mixed(9)
	isDisk(t, Of(whole), whole, true, 0)
	for _, rest := range []string{"x", full('x')[1:], full('x'), full('x') + "x", strings.Repeat(full('x'), 300)} {
		isDisk(t, Of(whole+rest), whole, true, 0)
	}
}

func TestNewDiskHasNoFuse(t *testing.T) {
	for _, d := range []*Disk{New(1), Of(full('o'))} {
		for i := range 300 {
			writes(t, d, 0, mixed(i%100))
		}
		isDisk(t, d, mixed(99), true, 300)
	}
}

func TestDiskWithoutBlocks(t *testing.T) {
	for _, d := range []*Disk{New(0), Of(""), Of("some")} {
		for _, at := range noBlock(0) {
			fails(t, d, at, api.ErrArg)
			isOnly(t, d.Write(at, full('x')), api.ErrArg)
		}
		fails(t, d, 0, api.ErrArg)
		d.Fuse(0, 0)
		isOnly(t, d.Write(0, full('x')), api.ErrArg)
		d.Come()
		isDisk(t, d, "", true, 0)
	}
}

func TestNilDisk(t *testing.T) {
	var d *Disk
	for range 2 {
		for _, at := range append(noBlock(0), 0) {
			fails(t, d, at, api.ErrNil)
			isOnly(t, d.Write(at, full('x')), api.ErrNil)
			isOnly(t, d.Write(at, "x"), api.ErrNil)
		}
		isDisk(t, d, "", false, 0)
		d.Fuse(1, 1)
		d.Fuse(math.MinInt, math.MinInt)
		d.Come()
	}
}

func TestDisksAreApart(t *testing.T) {
	image := full('a') + full('b')
	a, b := Of(image), Of(image)
	c := Of(a.Image())
	writes(t, a, 0, full('x'))
	a.Fuse(0, 1)
	isOnly(t, a.Write(1, full('y')), api.ErrDown)
	isDisk(t, a, full('x')+"y"+full('b')[1:], false, 1)
	isDisk(t, b, image, true, 0)
	isDisk(t, c, image, true, 0)
}

func TestWhatWasReadStays(t *testing.T) {
	d := three()
	image := d.Image()
	first, err := d.Read(1)
	if err != nil {
		t.Fatal(err)
	}
	for at := range 3 {
		writes(t, d, at, full('x'))
	}
	if first != mixed(1) || image != mixed(0)+mixed(1)+mixed(2) {
		t.Error("what was read changed with the disk")
	}
}

// P4.2

func TestReadAndWrite(t *testing.T) {
	d := three()
	want := []string{mixed(0), mixed(1), mixed(2)}
	for i, c := range []struct {
		at int
		s  string
	}{
		{1, full('x')}, {0, full('y')}, {2, full('z')}, {1, full('\x00')}, {1, full('\xff')}, {2, full('z')}, {0, mixed(128)},
	} {
		writes(t, d, c.at, c.s)
		want[c.at] = c.s
		for at, s := range want {
			reads(t, d, at, s)
		}
		isDisk(t, d, strings.Join(want, ""), true, i+1)
	}
}

func TestReadFails(t *testing.T) {
	d := three()
	for _, at := range noBlock(3) {
		fails(t, d, at, api.ErrArg)
	}
	isDisk(t, d, mixed(0)+mixed(1)+mixed(2), true, 0)
}

// eachBadWrite calls f with arguments that no Write on a disk of three blocks
// takes.
func eachBadWrite(f func(at int, s string)) {
	for _, at := range noBlock(3) {
		f(at, full('z'))
		f(at, "z")
	}
	for _, s := range noContent() {
		for at := range 3 {
			f(at, s)
		}
	}
}

func TestWriteFails(t *testing.T) {
	eachBadWrite(func(at int, s string) {
		d := three()
		isOnly(t, d.Write(at, s), api.ErrArg)
		isDisk(t, d, mixed(0)+mixed(1)+mixed(2), true, 0)
	})
}

func TestWriteThatFailsLeavesTheFuse(t *testing.T) {
	for n := range 3 {
		d := three()
		d.Fuse(n, 5)
		eachBadWrite(func(at int, s string) { isOnly(t, d.Write(at, s), api.ErrArg) })
		isDisk(t, d, mixed(0)+mixed(1)+mixed(2), true, 0)
		for range n {
			writes(t, d, 0, full('x'))
		}
		isOnly(t, d.Write(1, full('z')), api.ErrDown)
		reads(t, up(d), 1, full('z')[:5]+mixed(1)[5:])
	}
}

// up turns the power of a disk on.
func up(d *Disk) *Disk {
	d.Come()
	return d
}

func TestTornWrite(t *testing.T) {
	for n := range 4 {
		for torn := range size + 1 {
			for at := range 3 {
				d := three()
				d.Fuse(n, torn)
				for i := range n {
					writes(t, d, 0, mixed(100+i))
					reads(t, d, 0, mixed(100+i))
				}
				want := []string{mixed(0), mixed(1), mixed(2)}
				if n > 0 {
					want[0] = mixed(100 + n - 1)
				}
				isOnly(t, d.Write(at, full('\xff')), api.ErrDown)
				want[at] = full('\xff')[:torn] + want[at][torn:]
				isDisk(t, d, strings.Join(want, ""), false, n)
			}
		}
	}
}

func TestTornIsClamped(t *testing.T) {
	for _, c := range []struct{ torn, want int }{
		{-1, 0}, {-64, 0}, {math.MinInt, 0}, {0, 0}, {1, 1}, {63, 63}, {64, 64}, {65, 64}, {128, 64}, {math.MaxInt, 64},
	} {
		d := three()
		d.Fuse(0, c.torn)
		isOnly(t, d.Write(1, full('\xff')), api.ErrDown)
		isDisk(t, d, mixed(0)+full('\xff')[:c.want]+mixed(1)[c.want:]+mixed(2), false, 0)
	}
}

func TestFuseIsRemoved(t *testing.T) {
	for _, n := range []int{-1, -2, -1000, math.MinInt, math.MinInt + 1} {
		d := three()
		d.Fuse(0, 7)
		d.Fuse(n, 9)
		for i := range 200 {
			writes(t, d, i%3, full('x'))
		}
		isDisk(t, d, strings.Repeat(full('x'), 3), true, 200)
	}
}

func TestFuseIsReplaced(t *testing.T) {
	d := three()
	d.Fuse(0, 64)
	d.Fuse(2, 3)
	writes(t, d, 0, full('a'))
	d.Fuse(3, 4)
	for range 3 {
		writes(t, d, 0, full('b'))
	}
	d.Fuse(0, 5)
	isOnly(t, d.Write(1, full('c')), api.ErrDown)
	isDisk(t, d, full('b')+full('c')[:5]+mixed(1)[5:]+mixed(2), false, 4)
}

func TestLongFuse(t *testing.T) {
	for _, n := range []int{500, math.MaxInt - 1, math.MaxInt} {
		d := three()
		d.Fuse(n, 0)
		for range 500 {
			writes(t, d, 2, full('x'))
		}
		isDisk(t, d, mixed(0)+mixed(1)+full('x'), true, 500)
		if err := d.Write(2, full('y')); n == 500 {
			isOnly(t, err, api.ErrDown)
		} else if err != nil {
			t.Errorf("fuse %d: %v", n, err)
		}
	}
}

func TestReadLeavesTheFuse(t *testing.T) {
	d := three()
	d.Fuse(1, 0)
	for range 9 {
		reads(t, d, 1, mixed(1))
		fails(t, d, 3, api.ErrArg)
		isDisk(t, d, mixed(0)+mixed(1)+mixed(2), true, 0)
	}
	writes(t, d, 0, full('x'))
	reads(t, d, 0, full('x'))
	isOnly(t, d.Write(0, full('y')), api.ErrDown)
}

func TestWithoutPower(t *testing.T) {
	d := three()
	writes(t, d, 0, full('x'))
	d.Fuse(0, 2)
	isOnly(t, d.Write(1, full('y')), api.ErrDown)
	image := full('x') + "yy" + mixed(1)[2:] + mixed(2)
	for range 3 {
		for at := range 3 {
			fails(t, d, at, api.ErrDown)
			isOnly(t, d.Write(at, full('z')), api.ErrDown)
		}
		// What can't be is told first.
		for _, at := range noBlock(3) {
			fails(t, d, at, api.ErrArg)
		}
		eachBadWrite(func(at int, s string) { isOnly(t, d.Write(at, s), api.ErrArg) })
		isDisk(t, d, image, false, 1)
	}
}

func TestFuseWithoutPower(t *testing.T) {
	for _, n := range []int{-1, 0, 1, 5} {
		d := three()
		d.Fuse(0, 0)
		isOnly(t, d.Write(1, full('y')), api.ErrDown)
		d.Fuse(n, 9)
		isDisk(t, d, mixed(0)+mixed(1)+mixed(2), false, 0)
		fails(t, d, 0, api.ErrDown)
		isOnly(t, d.Write(0, full('z')), api.ErrDown)
		d.Come()
		for range 9 {
			writes(t, d, 0, full('w'))
		}
		isDisk(t, d, full('w')+mixed(1)+mixed(2), true, 9)
	}
}

func TestCome(t *testing.T) {
	d := three()
	d.Fuse(1, 4)
	writes(t, d, 0, full('x'))
	isOnly(t, d.Write(1, full('y')), api.ErrDown)
	image := full('x') + "yyyy" + mixed(1)[4:] + mixed(2)
	isDisk(t, d, image, false, 1)
	d.Come()
	isDisk(t, d, image, true, 1)
	for at := range 3 {
		reads(t, d, at, image[at*size:(at+1)*size])
	}
	for range 300 {
		writes(t, d, 2, full('z'))
	}
	isDisk(t, d, image[:2*size]+full('z'), true, 301)
}

func TestComeWithPowerLeavesTheFuse(t *testing.T) {
	for n := range 4 {
		d := three()
		d.Fuse(n, 6)
		d.Come()
		for range n {
			writes(t, d, 0, full('x'))
			d.Come()
		}
		isOnly(t, d.Write(2, full('y')), api.ErrDown)
		if d.IsOn() || d.Writes() != n || d.Image()[2*size:] != full('y')[:6]+mixed(2)[6:] {
			t.Errorf("fuse %d: power %t, %d writes, %q", n, d.IsOn(), d.Writes(), d.Image())
		}
	}
}

func TestPowerFailsAgain(t *testing.T) {
	d := three()
	want := mixed(1)
	for i := range 20 {
		d.Fuse(1, i)
		writes(t, d, 0, full(byte(i)))
		isOnly(t, d.Write(1, mixed(100+i)), api.ErrDown)
		want = mixed(100 + i)[:i] + want[i:]
		isDisk(t, d, full(byte(i))+want+mixed(2), false, i+1)
		d.Come()
	}
}

// plan is what the chapter says of a disk, done the plain way.
type plan struct {
	blocks []string
	isOff  bool
	fuses  []int
	torn   int
	whole  int
}

func (p *plan) write(at int, s string) error {
	switch {
	case at < 0 || at >= len(p.blocks) || len(s) != size:
		return api.ErrArg
	case p.isOff:
		return api.ErrDown
	case len(p.fuses) == 1 && p.fuses[0] == 0:
		p.blocks[at] = s[:p.torn] + p.blocks[at][p.torn:]
		p.isOff = true
		return api.ErrDown
	}
	p.blocks[at] = s
	p.whole++
	if len(p.fuses) == 1 {
		p.fuses[0]--
	}
	return nil
}

func (p *plan) fuse(n, torn int) {
	if p.isOff {
		return
	}
	p.fuses = nil
	if n >= 0 {
		p.fuses = []int{n}
	}
	p.torn = min(max(torn, 0), size)
}

func (p *plan) come() {
	if p.isOff {
		p.isOff = false
		p.fuses = nil
	}
}

func TestAnyCalls(t *testing.T) {
	for seed := range 60 {
		r := rand.New(rand.NewSource(int64(seed)))
		d, p := New(4), &plan{}
		for range 4 {
			p.blocks = append(p.blocks, full(0))
		}
		for range 400 {
			at, n, torn, s := r.Intn(6)-1, r.Intn(8)-2, r.Intn(70)-3, mixed(r.Intn(192))
			switch r.Intn(12) {
			case 0:
				d.Fuse(n, torn)
				p.fuse(n, torn)
			case 1, 2:
				d.Come()
				p.come()
			case 3:
				isOnly(t, d.Write(at, s[1:]), p.write(at, s[1:]))
			case 4:
				if _, err := d.Read(at); (err == nil) != (at >= 0 && at < 4 && !p.isOff) {
					t.Errorf("read of block %d: %v", at, err)
				}
			default:
				isOnly(t, d.Write(at, s), p.write(at, s))
			}
			isDisk(t, d, strings.Join(p.blocks, ""), !p.isOff, p.whole)
		}
		if t.Failed() {
			t.Fatal("seed ", seed)
		}
	}
}

// P4.3

func TestOnlyTheLastBlockIsTorn(t *testing.T) {
	for seed := range 200 {
		r := rand.New(rand.NewSource(int64(seed)))
		d := three()
		last := []string{mixed(0), mixed(1), mixed(2)}
		d.Fuse(r.Intn(20), r.Intn(size+1))
		for range 20 {
			at, s := r.Intn(3), mixed(3+r.Intn(180))
			err := d.Write(at, s)
			for other, want := range last {
				if got := d.Image()[other*size : (other+1)*size]; other != at && got != want {
					t.Fatalf("seed %d: block %d is %q, want %q", seed, other, got, want)
				}
			}
			if err != nil {
				break
			}
			last[at] = s
		}
		if d.IsOn() {
			t.Fatalf("seed %d: no write was torn", seed)
		}
		d.Come()
		torn := 0
		for at, want := range last {
			if s, err := d.Read(at); err != nil || s != want {
				torn++
			}
		}
		if torn > 1 {
			t.Errorf("seed %d: %d blocks are torn", seed, torn)
		}
	}
}

func TestExample(t *testing.T) {
	d := New(1)
	d.Fuse(0, 3)
	isOnly(t, d.Write(0, full('x')), api.ErrDown)
	isDisk(t, d, "xxx"+strings.Repeat("\x00", 61), false, 0)
}
