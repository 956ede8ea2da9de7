package wire

import (
	"errors"
	"math"
	"math/big"
	"strings"
	"testing"

	"quitrent/api"
)

var allErrors = []error{
	api.ErrArg, api.ErrNil, api.ErrForm, api.ErrOver, api.ErrNone, api.ErrDup, api.ErrFull,
	api.ErrQuota, api.ErrCeil, api.ErrRoom, api.ErrBudget, api.ErrFunds, api.ErrState, api.ErrDown,
}

// isOnly checks that err is want, and no other error of package api.
func isOnly(t *testing.T, err, want error) {
	t.Helper()
	for _, e := range allErrors {
		if errors.Is(err, e) != (e == want) {
			t.Errorf("error %v: want %v only", err, want)
		}
	}
}

// isFault checks for a Fault with ErrForm.
func isFault(t *testing.T, err error, op string, at int) {
	t.Helper()
	isOnly(t, err, api.ErrForm)
	var f *api.Fault
	if !errors.As(err, &f) || f.Op != op || f.At != at || !errors.Is(f.Err, api.ErrForm) {
		t.Errorf("error %v: want a Fault %s %d", err, op, at)
	}
}

// isNil checks for ErrNil without a Fault.
func isNil(t *testing.T, err error) {
	t.Helper()
	isOnly(t, err, api.ErrNil)
	var f *api.Fault
	if errors.As(err, &f) {
		t.Errorf("error %v: has a Fault", err)
	}
}

// isFailed checks that a reader failed at a place, and that nothing can be
// read from it any more.
func isFailed(t *testing.T, i *In, at int) {
	t.Helper()
	for range 2 {
		isFault(t, i.Err(), "read", at)
		isFault(t, i.End(), "read", at)
		if i.Left() != 0 {
			t.Errorf("%d bytes are left", i.Left())
		}
		if n, s, v, b := i.Int(), i.Text(0), i.Vec(), i.Bool(); n != 0 || s != "" || v != (api.Vec{}) || b {
			t.Errorf("read behind a failure: %d, %q, %v, %t", n, s, v, b)
		}
		if s := i.Text(math.MaxInt); s != "" {
			t.Errorf("read behind a failure: %q", s)
		}
	}
}

// isDone checks that a reader read all, without failure.
func isDone(t *testing.T, i *In) {
	t.Helper()
	if i.Left() != 0 || i.Err() != nil || i.End() != nil {
		t.Errorf("%d bytes are left: %v, %v", i.Left(), i.Err(), i.End())
	}
}

// numbers are integers of all sizes: each power of two, and those beside it.
func numbers() []int {
	list := []int{0, 1, -1, 300, -300, api.MaxVal, api.MaxCredit, math.MaxInt, math.MinInt}
	for k := range 63 {
		p := 1 << k
		list = append(list, p-1, p, p+1, -p-1, -p, -p+1)
	}
	return append(list, math.MinInt+1, math.MaxInt-1)
}

// texts are strings of all sorts, at the sizes where their length gets longer
// among them.
func texts() []string {
	list := []string{"", "a", "abc", "\x00", "\xff\xfe", "\x80\x00", "\u20ac", "quitrent"}
	for _, n := range []int{63, 64, 65, 8191, 8192} {
		list = append(list, strings.Repeat("\x80", n))
	}
	return list
}

var vecs = []api.Vec{
	{}, {1, 2, 3, -4}, {-1, -1, -1, -1}, {64, -65, 0, 8192}, {api.MaxVal, 0, api.MaxVal, 0},
	{math.MaxInt, math.MinInt, math.MaxInt, math.MinInt},
}

// digits does what the chapter says, with numbers that can't wrap round.
func digits(n int) string {
	u := big.NewInt(int64(n))
	u.Mul(u, big.NewInt(2))
	if n < 0 {
		u.Neg(u)
		u.Sub(u, big.NewInt(1))
	}
	var b []byte
	for {
		low := byte(new(big.Int).And(u, big.NewInt(127)).Int64())
		if u.Rsh(u, 7).Sign() == 0 {
			return string(append(b, low))
		}
		b = append(b, low|0x80)
	}
}

// number is what an integer is encoded as.
func number(n int) string {
	var o Out
	o.Int(n)
	return o.Bytes()
}

// P3.1

func TestOutIsEmptyAtFirst(t *testing.T) {
	var o Out
	if o.Bytes() != "" || new(Out).Bytes() != "" {
		t.Error("the zero value isn't empty")
	}
}

func TestOutInt(t *testing.T) {
	for _, c := range []struct {
		n    int
		want string
	}{
		{0, "\x00"}, {-1, "\x01"}, {1, "\x02"}, {-2, "\x03"}, {63, "\x7e"}, {-64, "\x7f"},
		{64, "\x80\x01"}, {-65, "\x81\x01"}, {150, "\xac\x02"}, {8191, "\xfe\x7f"}, {-8192, "\xff\x7f"}, {8192, "\x80\x80\x01"},
		{math.MaxInt, "\xfe\xff\xff\xff\xff\xff\xff\xff\xff\x01"},
		{math.MinInt, "\xff\xff\xff\xff\xff\xff\xff\xff\xff\x01"},
	} {
		if got := number(c.n); got != c.want {
			t.Errorf("%d is %q, want %q", c.n, got, c.want)
		}
	}
	for _, n := range numbers() {
		if got, want := number(n), digits(n); got != want {
			t.Errorf("%d is %q, want %q", n, got, want)
		}
	}
}

func TestOutText(t *testing.T) {
	for _, s := range texts() {
		var o Out
		o.Text(s)
		if got, want := o.Bytes(), digits(len(s))+s; got != want {
			t.Errorf("%q is %q, want %q", s, got, want)
		}
	}
}

func TestOutVec(t *testing.T) {
	for _, v := range vecs {
		var o Out
		o.Vec(v)
		if got, want := o.Bytes(), digits(v[0])+digits(v[1])+digits(v[2])+digits(v[3]); got != want {
			t.Errorf("%v is %q, want %q", v, got, want)
		}
	}
}

func TestOutBool(t *testing.T) {
	var o Out
	o.Bool(false)
	o.Bool(true)
	if got := o.Bytes(); got != "\x00\x02" {
		t.Errorf("false and true are %q", got)
	}
}

func TestOutAppends(t *testing.T) {
	var o Out
	want := ""
	for range 40 {
		o.Int(-65)
		want += "\x81\x01"
		before := o.Bytes()
		o.Text("abc")
		o.Vec(api.Vec{1, 2, 3, -4})
		o.Bool(true)
		o.Text("")
		o.Bool(false)
		if before != want {
			t.Fatalf("what was returned became %q", before)
		}
		want += "\x06abc" + "\x02\x04\x06\x07" + "\x02" + "\x00" + "\x00"
		if o.Bytes() != want || o.Bytes() != want {
			t.Fatalf("got %q, want %q", o.Bytes(), want)
		}
	}
}

func TestOutsAreApart(t *testing.T) {
	var a, b Out
	a.Text("a")
	b.Text("b")
	a.Int(1)
	b.Int(2)
	if a.Bytes() != "\x02a\x02" || b.Bytes() != "\x02b\x04" {
		t.Errorf("%q and %q", a.Bytes(), b.Bytes())
	}
}

func TestNilOut(t *testing.T) {
	var o *Out
	o.Int(1)
	o.Text("")
	o.Text("abc")
	o.Vec(api.Vec{1, 2, 3, 4})
	o.Bool(true)
	if o.Bytes() != "" {
		t.Errorf("a nil Out has %q", o.Bytes())
	}
}

// P3.2

func TestInInt(t *testing.T) {
	for _, n := range numbers() {
		s := digits(n)
		i := Of(s + "\x80")
		if got := i.Int(); got != n || i.Left() != 1 || i.Err() != nil {
			t.Errorf("%q is %d, want %d; %d left, %v", s, got, n, i.Left(), i.Err())
		}
		for cut := range len(s) {
			i := Of(s[:cut])
			if got := i.Int(); got != 0 {
				t.Errorf("%q is %d", s[:cut], got)
			}
			isFailed(t, i, 0)
		}
	}
}

// badNumbers are bytes that begin with no encoding of an integer.
func badNumbers() []string {
	ones := strings.Repeat("\xff", 9)
	list := []string{
		"",
		// Incomplete.
		"\x80", "\xff", "\x80\x80", ones,
		// Longer than necessary.
		"\x80\x00", "\x81\x00", "\xff\x80\x00", ones + "\x00", "\x80\x00\x02", ones[:8] + "\x80\x00",
		// More than 64 bits.
		ones + "\x02", ones + "\x03", ones + "\x7f", ones + "\x80", ones + "\x81", ones + "\xff",
		ones + "\x80\x00", ones + "\x81\x01", ones + "\xff\x01", strings.Repeat("\x80", 9) + "\x02",
	}
	for _, n := range []int{10, 11, 64, 70, 1000} {
		list = append(list, strings.Repeat("\x80", n), strings.Repeat("\x80", n)+"\x01", strings.Repeat("\xff", n)+"\x00")
	}
	return list
}

func TestInIntFails(t *testing.T) {
	for _, s := range badNumbers() {
		for _, ahead := range []int{0, 1, 3} {
			i := Of(strings.Repeat("\x02", ahead) + s)
			for range ahead {
				i.Int()
			}
			if i.Err() != nil || i.Left() != len(s) {
				t.Fatalf("%q: %v ahead of it", s, i.Err())
			}
			if n := i.Int(); n != 0 {
				t.Errorf("%q is %d", s, n)
			}
			isFailed(t, i, ahead)
		}
	}
}

func TestInText(t *testing.T) {
	for _, s := range texts() {
		for _, most := range []int{len(s), len(s) + 1, math.MaxInt} {
			i := Of(digits(len(s)) + s + "more")
			if got := i.Text(most); got != s || i.Left() != 4 || i.Err() != nil {
				t.Errorf("%q is %q; %d left, %v", s, got, i.Left(), i.Err())
			}
		}
	}
}

func TestInTextFails(t *testing.T) {
	type text struct {
		s    string
		most int
	}
	list := []text{
		// Greater than most.
		{"\x06abc", 2}, {"\x06abc", 0}, {"\x06abc", -1}, {"\x06abc", math.MinInt}, {"\x00", -1}, {"\x02a", math.MinInt},
		// Greater than what is left.
		{"\x06ab", 9}, {"\x06", 9}, {"\x06ab", 3}, {"\x02", math.MaxInt}, {digits(math.MaxInt) + "abc", math.MaxInt},
		{digits(math.MaxInt-1) + "abc", math.MaxInt},
		// Negative.
		{"\x01ab", 9}, {"\x01", -1}, {"\x01", math.MinInt}, {"\x03ab", -2}, {digits(math.MinInt) + "abc", math.MaxInt},
		{digits(math.MinInt) + "abc", math.MinInt}, {digits(-300) + "abc", 9},
	}
	for _, s := range badNumbers() {
		list = append(list, text{s, 9}, text{s, math.MaxInt}, text{s, -1})
	}
	for _, c := range list {
		for _, ahead := range []int{0, 2} {
			i := Of(strings.Repeat("\x02x", ahead) + c.s)
			for range ahead {
				i.Text(1)
			}
			if i.Err() != nil || i.Left() != len(c.s) {
				t.Fatalf("%q: %v ahead of it", c.s, i.Err())
			}
			if s := i.Text(c.most); s != "" {
				t.Errorf("%q is %q", c.s, s)
			}
			isFailed(t, i, 2*ahead)
		}
	}
}

func TestInVec(t *testing.T) {
	for _, v := range vecs {
		s := digits(v[0]) + digits(v[1]) + digits(v[2]) + digits(v[3])
		i := Of(s + "\x00")
		if got := i.Vec(); got != v || i.Left() != 1 || i.Err() != nil {
			t.Errorf("%q is %v, want %v; %d left, %v", s, got, v, i.Left(), i.Err())
		}
	}
}

func TestInVecFails(t *testing.T) {
	for _, bad := range badNumbers() {
		at := 0
		whole := ""
		for k, n := range []int{1, 64, -8193, 5} {
			i := Of(whole + bad)
			if v := i.Vec(); v != (api.Vec{}) {
				t.Errorf("%q behind %d numbers is %v", bad, k, v)
			}
			isFailed(t, i, at)
			whole += digits(n)
			at = len(whole)
		}
	}
}

func TestInBool(t *testing.T) {
	i := Of("\x00\x02\x02\x00")
	for k, want := range []bool{false, true, true, false} {
		if got := i.Bool(); got != want || i.Left() != 3-k || i.Err() != nil {
			t.Errorf("place %d is %t; %d left, %v", k, got, i.Left(), i.Err())
		}
	}
	isDone(t, i)
}

func TestInBoolFails(t *testing.T) {
	list := badNumbers()
	for _, n := range numbers() {
		if n != 0 && n != 1 {
			list = append(list, digits(n))
		}
	}
	for _, s := range list {
		i := Of("\x02\x02" + s)
		if !i.Bool() || !i.Bool() {
			t.Fatalf("%q: %v ahead of it", s, i.Err())
		}
		if i.Bool() {
			t.Errorf("%q is true", s)
		}
		isFailed(t, i, 2)
	}
	// What is behind it is consumed as well.
	i := Of("\x04\x02\x02")
	if i.Bool() {
		t.Error("2 is true")
	}
	isFailed(t, i, 0)
}

func TestReadersAreApart(t *testing.T) {
	s := "\x06abc\x02"
	a, b := Of(s), Of(s)
	if a.Text(9) != "abc" || b.Left() != 5 || b.Text(9) != "abc" {
		t.Error("one reader moves another")
	}
	a.Text(0)
	isFailed(t, a, 4)
	if b.Err() != nil || b.Int() != 1 {
		t.Error("one reader's failure is another's")
	}
}

// P3.3

func TestLeft(t *testing.T) {
	i := Of("\x06abc\x80\x01\x00\x00\x00\x00\x02")
	if i.Left() != 11 {
		t.Errorf("%d bytes at first", i.Left())
	}
	for k, c := range []struct {
		read func()
		left int
	}{
		{func() { i.Text(3) }, 7},
		{func() { i.Int() }, 5},
		{func() { i.Vec() }, 1},
		{func() { i.Bool() }, 0},
	} {
		if end := i.End(); i.Err() != nil || end == nil {
			t.Errorf("value %d: %v, %v ahead of it", k, i.Err(), end)
		}
		isFault(t, i.End(), "end", 11-i.Left())
		c.read()
		if i.Left() != c.left || i.Err() != nil {
			t.Errorf("value %d: %d left, %v", k, i.Left(), i.Err())
		}
	}
	isDone(t, i)
}

func TestEndOfNothing(t *testing.T) {
	i := Of("")
	isDone(t, i)
	i.Int()
	isFailed(t, i, 0)
}

func TestEndConsumesNothing(t *testing.T) {
	i := Of("\x02\x04")
	isFault(t, i.End(), "end", 0)
	isFault(t, i.End(), "end", 0)
	if i.Err() != nil || i.Left() != 2 || i.Int() != 1 {
		t.Error("End changed the reader")
	}
	isFault(t, i.End(), "end", 1)
	if i.Int() != 2 {
		t.Error("End changed the reader")
	}
	isDone(t, i)
}

func TestFirstFailureCounts(t *testing.T) {
	i := Of("\x02\x04\x02a\x80\x00")
	i.Int()
	if i.Bool() {
		t.Error("2 is true")
	}
	isFailed(t, i, 1)
	// All is consumed, so that no bytes are left for End to tell of.
	i.Text(9)
	isFailed(t, i, 1)
}

func TestFailureBehindTheEnd(t *testing.T) {
	i := Of("\x02\x02")
	i.Int()
	i.Int()
	isDone(t, i)
	i.Vec()
	isFailed(t, i, 2)
}

func TestFailureIsKeptFromItsTellers(t *testing.T) {
	i := Of("\x02\x80")
	i.Int()
	i.Int()
	for _, tell := range []func() error{i.Err, i.End} {
		var f *api.Fault
		if !errors.As(tell(), &f) {
			t.Fatal("no Fault")
		}
		*f = api.Fault{Op: "other", At: 9, Err: api.ErrNil}
		isFailed(t, i, 1)
	}
}

func TestNilIn(t *testing.T) {
	var i *In
	for range 2 {
		isNil(t, i.Err())
		isNil(t, i.End())
		if n, s, v, b := i.Int(), i.Text(9), i.Vec(), i.Bool(); n != 0 || s != "" || v != (api.Vec{}) || b {
			t.Errorf("read from nil: %d, %q, %v, %t", n, s, v, b)
		}
		if i.Text(-1) != "" || i.Left() != 0 {
			t.Errorf("read from nil: %d bytes left", i.Left())
		}
	}
}

// P3.4

// shapes are sequences of reads, each of which writes again what it read.
var shapes = []func(i *In, o *Out){
	func(i *In, o *Out) { o.Int(i.Int()) },
	func(i *In, o *Out) { o.Int(i.Int()); o.Int(i.Int()) },
	func(i *In, o *Out) { o.Text(i.Text(1)) },
	func(i *In, o *Out) { o.Text(i.Text(math.MaxInt)) },
	func(i *In, o *Out) { o.Bool(i.Bool()) },
	func(i *In, o *Out) { o.Bool(i.Bool()); o.Int(i.Int()) },
	func(i *In, o *Out) { o.Vec(i.Vec()) },
	func(i *In, o *Out) { o.Text(i.Text(9)); o.Bool(i.Bool()) },
}

// isOnlyForm checks that s, if it can be read to its end, is what is written
// for what was read, and reports whether it could.
func isOnlyForm(t *testing.T, s string) bool {
	t.Helper()
	read := false
	for k, shape := range shapes {
		var o Out
		i := Of(s)
		shape(i, &o)
		if i.End() != nil {
			continue
		}
		read = true
		if o.Bytes() != s {
			t.Errorf("shape %d: %q was read, and written again as %q", k, s, o.Bytes())
		}
	}
	return read
}

func TestShortInputsHaveTheirOnlyForm(t *testing.T) {
	count := 0
	for a := range 256 {
		if isOnlyForm(t, string([]byte{byte(a)})) {
			count++
		}
		for b := range 256 {
			if isOnlyForm(t, string([]byte{byte(a), byte(b)})) {
				count++
			}
		}
	}
	if count == 0 {
		t.Error("nothing could be read")
	}
}

func TestInputsWithAnotherByteHaveTheirOnlyForm(t *testing.T) {
	for _, n := range numbers() {
		s := digits(n)
		if !isOnlyForm(t, s) {
			t.Errorf("%d can't be read", n)
		}
		for k := range len(s) {
			for _, b := range []byte{0, 1, 2, 3, 64, 126, 127, 128, 129, 130, 254, 255} {
				isOnlyForm(t, s[:k]+string([]byte{b})+s[k+1:])
			}
		}
	}
	for _, v := range vecs {
		var o Out
		o.Vec(v)
		if s := o.Bytes(); !isOnlyForm(t, s) || isOnlyForm(t, s+"\x80") {
			t.Errorf("%v", v)
		}
	}
}

func TestWrittenIsRead(t *testing.T) {
	list, words := numbers(), texts()
	var o Out
	for k, n := range list {
		o.Int(n)
		o.Text(words[k%len(words)])
		o.Vec(vecs[k%len(vecs)])
		o.Bool(k%3 == 0)
	}
	i := Of(o.Bytes())
	for k, want := range list {
		n, s, v, b := i.Int(), i.Text(8192), i.Vec(), i.Bool()
		if n != want || s != words[k%len(words)] || v != vecs[k%len(vecs)] || b != (k%3 == 0) {
			t.Fatalf("round %d: %d, %q, %v, %t", k, n, s, v, b)
		}
	}
	isDone(t, i)
}

func TestCutIsNotRead(t *testing.T) {
	var o Out
	o.Int(-65)
	o.Text("abc")
	o.Vec(api.Vec{1, 64, 8192, -4})
	o.Bool(true)
	s := o.Bytes()
	for cut := range len(s) + 1 {
		i := Of(s[:cut])
		i.Int()
		i.Text(3)
		i.Vec()
		i.Bool()
		if whole := cut == len(s); (i.End() == nil) != whole {
			t.Errorf("cut at %d: %v", cut, i.End())
		}
	}
}
