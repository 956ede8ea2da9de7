package sum

import (
	"math"
	"math/big"
	"strings"
	"testing"
)

// numbers are values to go on from, the extremes among them.
var numbers = []uint32{0, 1, 2, 255, 256, 257, 258, 65535, 1 << 16, 1 << 24, 1<<31 - 1, 1 << 31, math.MaxUint32 - 256, math.MaxUint32 - 1, math.MaxUint32}

// texts are strings of all sorts: bytes of no UTF-8, zero bytes, and lengths
// beside those at which a number wraps round.
func texts() []string {
	list := []string{
		"", "a", "ab", "ba", "abc", "quitrent", "\x00", "\x00\x00", "\x00a", "a\x00", "\xff", "\xff\xff\xff\xff\xff",
		"\xc3\x28", "\xf0\x9f", "\u00e9", "\u20ac", "\U0001f600", every(),
	}
	for _, n := range []int{3, 4, 5, 63, 64, 65, 255, 256, 257, 6000} {
		list = append(list, strings.Repeat("\x00", n), strings.Repeat("x", n), strings.Repeat("\xff", n))
	}
	return list
}

// every is the text of all bytes.
func every() string {
	var b [256]byte
	for i := range b {
		b[i] = byte(i)
	}
	return string(b[:])
}

// steps does what the chapter says, with numbers that can't wrap round.
func steps(n uint32, s string) uint32 {
	value := big.NewInt(int64(n))
	for _, b := range []byte(s) {
		value.Mul(value, big.NewInt(257))
		value.Add(value, big.NewInt(int64(b)+1))
		value.Mod(value, big.NewInt(1<<32))
	}
	return uint32(value.Uint64())
}

// P2.1

func TestOf(t *testing.T) {
	for _, c := range []struct {
		s    string
		want uint32
	}{
		{"", 1},
		{"a", 355},
		{"\x00", 258},
		{"\xff", 513},
		{"ab", 91334},
		{"ba", 91590},
		{"\x00\x00", 66307},
		{"\u00e9", (257+196)*257 + 170},
	} {
		if got := Of(c.s); got != c.want {
			t.Errorf("Of(%q) is %d, want %d", c.s, got, c.want)
		}
	}
	for _, s := range texts() {
		if got, want := Of(s), steps(1, s); got != want {
			t.Errorf("Of(%q) is %d, want %d", s, got, want)
		}
	}
}

func TestMore(t *testing.T) {
	for _, n := range numbers {
		if got := More(n, ""); got != n {
			t.Errorf("More(%d, \"\") is %d", n, got)
		}
		for _, s := range texts() {
			if got, want := More(n, s), steps(n, s); got != want {
				t.Errorf("More(%d, %q) is %d, want %d", n, s, got, want)
			}
		}
	}
	if got := More(0, "\x00"); got != 1 {
		t.Errorf("from 0: %d", got)
	}
	// 257 times 2^32 - 1 is 2^32 - 257, wrapped round.
	if got := More(math.MaxUint32, "\xff"); got != math.MaxUint32 {
		t.Errorf("from the greatest: %d", got)
	}
}

func TestMoreGoesOnFromOf(t *testing.T) {
	for _, a := range texts() {
		for _, b := range texts() {
			if More(Of(a), b) != Of(a+b) {
				t.Errorf("%q with %q behind it", a, b)
			}
		}
	}
	s := every()
	for i := range len(s) + 1 {
		if More(Of(s[:i]), s[i:]) != Of(s) {
			t.Errorf("cut at %d", i)
		}
	}
}

func TestBack(t *testing.T) {
	if got := Back(355, 'a'); got != 1 {
		t.Errorf("Back of \"a\" is %d", got)
	}
	if got := Back(1, 0); got != 0 {
		t.Errorf("Back(1, 0) is %d", got)
	}
	if got := Back(0, 255); got != 0xff00ff00 {
		t.Errorf("Back(0, 255) is %d", got)
	}
	for _, n := range numbers {
		for b := range 256 {
			s := string([]byte{byte(b)})
			if got := steps(Back(n, byte(b)), s); got != n {
				t.Errorf("Back(%d, %d) becomes %d", n, b, got)
			}
			// There is no other: a step that was done is undone to where it began.
			if got := Back(steps(n, s), byte(b)); got != n {
				t.Errorf("%d, behind the byte %d and back, is %d", n, b, got)
			}
		}
	}
}

func TestBackTakesAllBytesAway(t *testing.T) {
	for _, s := range texts() {
		for _, n := range numbers {
			end := More(n, s)
			for i := len(s) - 1; i >= 0; i-- {
				end = Back(end, s[i])
			}
			if end != n {
				t.Errorf("%q taken away from behind %d: %d", s, n, end)
			}
		}
	}
}

// P2.2

func TestOneOtherByteTells(t *testing.T) {
	for _, s := range []string{"\x00", "\xff", "ab", strings.Repeat("\x00", 64), strings.Repeat("\xff", 65), "quitrent " + every()} {
		for i := range len(s) {
			seen := make(map[uint32]int)
			for b := range 256 {
				n := Of(s[:i] + string([]byte{byte(b)}) + s[i+1:])
				if other, ok := seen[n]; ok {
					t.Fatalf("length %d, place %d: bytes %d and %d have the same checksum", len(s), i, other, b)
				}
				seen[n] = b
			}
		}
	}
}

func TestOneOtherByteTellsFarFromTheEnd(t *testing.T) {
	const size = 6000
	for _, i := range []int{0, 1, 2, size / 2, size - 257, size - 256, size - 2, size - 1} {
		text := []byte(strings.Repeat("m", size))
		was := Of(string(text))
		for b := range 256 {
			text[i] = byte(b)
			if same := b == 'm'; (Of(string(text)) == was) != same {
				t.Errorf("place %d: byte %d", i, b)
			}
		}
	}
}
