package wire_test

import (
	"bytes"
	"math"
	"math/big"
	"slices"
	"testing"

	"terrazzo/api"
	"terrazzo/wire"
)

// asWidth is the width that an argument counts as, written apart from the program.
func asWidth(width int) int {
	switch {
	case width < 1:
		return 1
	case width > 7:
		return 7
	}
	return width
}

// model encodes n with big numbers, so that it shares no arithmetic with the program.
func model(width, n int) []byte {
	width = asWidth(width)
	top := new(big.Int).Exp(big.NewInt(256), big.NewInt(int64(width)), nil)
	top.Sub(top, big.NewInt(1))
	x := big.NewInt(int64(n))
	if x.Sign() < 0 {
		x.SetInt64(0)
	}
	if x.Cmp(top) > 0 {
		x.Set(top)
	}
	return x.FillBytes(make([]byte, width))
}

// edges are the numbers at the borders of every width.
func edges() []int {
	l := []int{math.MinInt, -256, -1, 0, 1, 2, math.MaxInt}
	for w := range 8 {
		p := 1 << (8 * w)
		l = append(l, p-1, p, p+1, p+p/2)
	}
	return l
}

var widths = []int{math.MinInt, -1, 0, 1, 2, 3, 4, 5, 6, 7, 8, 9, 64, math.MaxInt}

// pattern is n bytes that are not all the same.
func pattern(n int) []byte {
	b := make([]byte, n)
	for i := range b {
		b[i] = byte(i*7 + i>>8)
	}
	return b
}

// P1.1: numbers of every width, in and beyond their range.
func TestNumEncodes(t *testing.T) {
	for _, w := range widths {
		for _, n := range edges() {
			want := append([]byte{7, 8}, model(w, n)...)
			if got := wire.Num([]byte{7, 8}, w, n); !bytes.Equal(got, want) {
				t.Errorf("Num(7 8, %d, %d) = %v, want %v", w, n, got, want)
			}
		}
	}
}

// P1.1: the examples of the chapter, and a few that were written out by hand.
func TestEncodingsByHand(t *testing.T) {
	for i, c := range []struct{ got, want []byte }{
		{wire.Num(nil, 2, 258), []byte{1, 2}},
		{wire.Num(nil, 2, -1), []byte{0, 0}},
		{wire.Num(nil, 2, 70000), []byte{255, 255}},
		{wire.Num(nil, 3, 0x010203), []byte{1, 2, 3}},
		{wire.Num([]byte{}, 7, math.MaxInt), []byte{255, 255, 255, 255, 255, 255, 255}},
		{wire.Num([]byte{1}, 0, 5), []byte{1, 5}},
		{wire.Num([]byte{1}, 8, 5), []byte{1, 0, 0, 0, 0, 0, 0, 5}},
		{wire.Blob(nil, []byte("ab")), []byte{0, 2, 97, 98}},
		{wire.Blob([]byte{9}, nil), []byte{9, 0, 0}},
		{wire.Nums(nil, 1, []int{7, 9}), []byte{2, 7, 9}},
		{wire.Nums([]byte{9}, 3, nil), []byte{9, 0}},
		{wire.Nums(nil, 2, []int{-1, 70000, 258}), []byte{3, 0, 0, 255, 255, 1, 2}},
	} {
		if !bytes.Equal(c.got, c.want) {
			t.Errorf("%d: got %v, want %v", i, c.got, c.want)
		}
	}
}

// P1.1: a blob keeps its first 65535 bytes.
func TestBlobEncodes(t *testing.T) {
	for _, n := range []int{0, 1, 2, 255, 256, 257, 65534, 65535, 65536, 65537, 131071} {
		x := pattern(n)
		kept := x[:min(n, 65535)]
		want := append([]byte{5, byte(len(kept) / 256), byte(len(kept) % 256)}, kept...)
		if got := wire.Blob([]byte{5}, x); !bytes.Equal(got, want) {
			t.Errorf("Blob of %d bytes: %d bytes that begin %v", n, len(got), got[:3])
		}
	}
}

// P1.1: a list keeps its first 255 numbers, each encoded with the width.
func TestNumsEncodes(t *testing.T) {
	for _, w := range widths {
		for _, n := range []int{0, 1, 2, 254, 255, 256, 257, 511} {
			l := make([]int, n)
			for i := range l {
				l[i] = edges()[i%len(edges())]
			}
			kept := l[:min(n, 255)]
			want := []byte{5, byte(len(kept))}
			for _, x := range kept {
				want = append(want, model(w, x)...)
			}
			if got := wire.Nums([]byte{5}, w, l); !bytes.Equal(got, want) {
				t.Errorf("Nums of width %d of %d numbers is wrong", w, n)
			}
		}
	}
}

// P1.1: the result is new memory; neither the argument nor its spare capacity is touched.
func TestEncodersLeaveArguments(t *testing.T) {
	x, l := []byte("xyz"), []int{-5, 1 << 60}
	for name, put := range map[string]func([]byte) []byte{
		"Num":       func(b []byte) []byte { return wire.Num(b, 2, 0x0102) },
		"Blob":      func(b []byte) []byte { return wire.Blob(b, x) },
		"BlobEmpty": func(b []byte) []byte { return wire.Blob(b, nil) },
		"Nums":      func(b []byte) []byte { return wire.Nums(b, 1, l) },
	} {
		room := bytes.Repeat([]byte{77}, 40)
		b := room[:4]
		first := put(b)
		kept := bytes.Clone(first)
		for i := range first[:cap(first)] {
			first[:cap(first)][i] = 1
		}
		if !bytes.Equal(room, bytes.Repeat([]byte{77}, 40)) {
			t.Errorf("%s shares memory with its argument", name)
		}
		if second := put(b); !bytes.Equal(second, kept) {
			t.Errorf("%s: %v, then %v", name, kept, second)
		}
	}
	if string(x) != "xyz" || !slices.Equal(l, []int{-5, 1 << 60}) {
		t.Error("an argument was changed")
	}
}

// P1.1: b may be the byte string that is encoded.
func TestBlobOfItself(t *testing.T) {
	b := append(make([]byte, 0, 20), 1, 2)
	if got := wire.Blob(b, b); !bytes.Equal(got, []byte{1, 2, 0, 2, 1, 2}) {
		t.Error(got)
	}
}

// P1.2: fields are decoded in order, and Left follows.
func TestReaderDecodes(t *testing.T) {
	r := wire.Read([]byte{1, 2, 0, 2, 97, 98, 2, 7, 9, 2, 1, 0, 0, 1, 0, 0, 0, 5})
	if n := r.Num(2); n != 258 || r.Left() != 16 {
		t.Error(n, r.Left())
	}
	if x := r.Blob(2); string(x) != "ab" || r.Left() != 12 {
		t.Error(x, r.Left())
	}
	if l := r.Nums(1, 2); !slices.Equal(l, []int{7, 9}) || r.Left() != 9 {
		t.Error(l, r.Left())
	}
	if l := r.Nums(2, 200); !slices.Equal(l, []int{256, 1}) || r.Left() != 4 {
		t.Error(l, r.Left())
	}
	if x := r.Blob(0); len(x) != 0 || r.Left() != 2 {
		t.Error(x, r.Left())
	}
	if l := r.Nums(7, 0); len(l) != 0 || r.Left() != 1 {
		t.Error(l, r.Left())
	}
	if n := r.Num(1); n != 5 || r.Left() != 0 || r.Err() != api.OK || r.End() != api.OK {
		t.Error(n, r.Left(), r.Err())
	}
}

// P1.2: width arguments beyond 1 to 7 count as the nearest width.
func TestReaderWidths(t *testing.T) {
	b := []byte{1, 2, 3, 4, 5, 6, 7, 8}
	for _, w := range widths {
		want := int(new(big.Int).SetBytes(b[:asWidth(w)]).Int64())
		r := wire.Read(b)
		if n := r.Num(w); n != want || r.Left() != 8-asWidth(w) {
			t.Errorf("Num(%d) = %d, %d left", w, n, r.Left())
		}
		r = wire.Read(append([]byte{1}, b...))
		if l := r.Nums(w, 1); !slices.Equal(l, []int{want}) || r.Left() != 8-asWidth(w) {
			t.Errorf("Nums(%d, 1) = %v, %d left", w, l, r.Left())
		}
	}
}

// P1.2: a number fails with ErrShort exactly if it has fewer bytes than its width.
func TestNumShort(t *testing.T) {
	for _, w := range widths {
		for n := range 9 {
			r := wire.Read(bytes.Repeat([]byte{255}, n))
			got := r.Num(w)
			if short := n < asWidth(w); short != (r.Err() == api.ErrShort) || short && got != 0 || !short && r.Err() != api.OK {
				t.Errorf("Num(%d) of %d bytes: %d, error %d", w, n, got, r.Err())
			}
		}
	}
}

// P1.2: the errors of Blob and Nums: a missing length, a length beyond most, missing bytes, in this order.
func TestCountedErrors(t *testing.T) {
	for i, c := range []struct {
		b    []byte
		most int
		want api.Errno
	}{
		{nil, 9, api.ErrShort},
		{[]byte{0}, 9, api.ErrShort},
		{[]byte{9}, -1, api.ErrShort},
		{[]byte{0, 3, 97}, 9, api.ErrShort},
		{[]byte{0, 3, 97}, 3, api.ErrShort},
		{[]byte{0, 3, 97}, 2, api.ErrForm},
		{[]byte{0, 3, 97, 97, 97}, 3, api.OK},
		{[]byte{0, 3, 97, 97, 97}, math.MaxInt, api.OK},
		{[]byte{0, 3, 97, 97, 97, 97}, 2, api.ErrForm},
		{[]byte{0, 3, 97, 97}, math.MaxInt, api.ErrShort},
		{[]byte{0, 0}, 0, api.OK},
		{[]byte{0, 0}, -1, api.OK},
		{[]byte{0, 0}, math.MinInt, api.OK},
		{[]byte{0, 1, 97}, 0, api.ErrForm},
		{[]byte{0, 1, 97}, -1, api.ErrForm},
		{[]byte{0, 1, 97}, math.MinInt, api.ErrForm},
		{[]byte{1, 0}, 255, api.ErrForm},
		{[]byte{1, 0}, 256, api.ErrShort},
	} {
		r := wire.Read(c.b)
		x := r.Blob(c.most)
		if r.Err() != c.want || c.want != api.OK && len(x) != 0 {
			t.Errorf("Blob %d: %v, error %d, want %d", i, x, r.Err(), c.want)
		}
	}
	for i, c := range []struct {
		b           []byte
		width, most int
		want        api.Errno
	}{
		{nil, 1, 9, api.ErrShort},
		{nil, 1, -9, api.ErrShort},
		{[]byte{0}, 1, -9, api.OK},
		{[]byte{2, 1, 1}, 1, 2, api.OK},
		{[]byte{2, 1, 1}, 1, 1, api.ErrForm},
		{[]byte{2, 1}, 1, 1, api.ErrForm},
		{[]byte{2, 1}, 1, 2, api.ErrShort},
		{[]byte{2, 1, 1, 1}, 2, 2, api.ErrShort},
		{[]byte{2, 1, 1, 1, 1}, 2, 2, api.OK},
		{[]byte{2, 1, 1, 1, 1}, 3, 2, api.ErrShort},
		{[]byte{1, 1, 1, 1, 1, 1, 1}, 7, 1, api.ErrShort},
		{[]byte{1, 1, 1, 1, 1, 1, 1}, 99, 1, api.ErrShort},
		{[]byte{1, 1, 1, 1, 1, 1, 1, 1}, 99, 1, api.OK},
		{[]byte{1, 1}, -3, math.MaxInt, api.OK},
		{[]byte{255, 1}, 7, math.MaxInt, api.ErrShort},
		{[]byte{255, 1}, 7, 254, api.ErrForm},
		{[]byte{1, 1}, 1, math.MinInt, api.ErrForm},
	} {
		r := wire.Read(c.b)
		l := r.Nums(c.width, c.most)
		if r.Err() != c.want || c.want != api.OK && len(l) != 0 {
			t.Errorf("Nums %d: %v, error %d, want %d", i, l, r.Err(), c.want)
		}
	}
}

// P1.2: a Reader keeps nothing of its argument, and what it returns shares no memory.
func TestReaderCopies(t *testing.T) {
	b := []byte{0, 2, 97, 98, 0, 2, 99, 100}
	kept := bytes.Clone(b)
	r := wire.Read(b)
	b[2] = 1
	first := r.Blob(9)
	if string(first) != "ab" {
		t.Error("the Reader follows a change of its argument")
	}
	for i := range first[:cap(first)] {
		first[:cap(first)][i] = 1
	}
	_ = append(first, 9, 9, 9, 9, 9, 9)
	if second := r.Blob(9); string(second) != "cd" {
		t.Error("a result shares memory with the Reader")
	}
	b[2] = 97
	if !bytes.Equal(b, kept) {
		t.Error("the argument was changed")
	}
}

// P1.2: two Readers of the same bytes go their own ways.
func TestReadersApart(t *testing.T) {
	b := []byte{1, 2, 3}
	r, s := wire.Read(b), wire.Read(b)
	if r.Num(3); r.Left() != 0 || s.Left() != 3 || s.Num(1) != 1 || s.Num(2) != 515 {
		t.Error(r.Left(), s.Left())
	}
}

// failed holds that a Reader has the error e and answers nothing any more.
func failed(t *testing.T, name string, r *wire.Reader, e api.Errno) {
	t.Helper()
	for range 2 {
		if n := r.Num(1); n != 0 {
			t.Errorf("%s: Num after an error: %d", name, n)
		}
		if x := r.Blob(100); len(x) != 0 {
			t.Errorf("%s: Blob after an error: %v", name, x)
		}
		if l := r.Nums(1, 100); len(l) != 0 {
			t.Errorf("%s: Nums after an error: %v", name, l)
		}
		if r.Left() != 0 || r.Err() != e || r.End() != e {
			t.Errorf("%s: Left %d, Err %d, End %d, want error %d", name, r.Left(), r.Err(), r.End(), e)
		}
	}
}

// P1.3: whichever call failed first, its error remains, and no later call returns anything.
func TestFirstErrorRemains(t *testing.T) {
	b := []byte{0, 1, 2, 0, 1, 2, 0, 1, 2}
	for name, c := range map[string]struct {
		fail func(r *wire.Reader)
		want api.Errno
	}{
		"Num":       {func(r *wire.Reader) { r.Num(3); r.Num(3); r.Num(4) }, api.ErrShort},
		"Blob":      {func(r *wire.Reader) { r.Num(1); r.Blob(900) }, api.ErrShort},
		"BlobForm":  {func(r *wire.Reader) { r.Blob(0) }, api.ErrForm},
		"Nums":      {func(r *wire.Reader) { r.Num(2); r.Nums(7, 2) }, api.ErrShort},
		"NumsForm":  {func(r *wire.Reader) { r.Num(2); r.Nums(1, 1) }, api.ErrForm},
		"Fail":      {func(r *wire.Reader) { r.Fail(api.ErrSum) }, api.ErrSum},
		"FailTwice": {func(r *wire.Reader) { r.Fail(api.ErrSum); r.Fail(api.ErrForm) }, api.ErrSum},
		"FailOther": {func(r *wire.Reader) { r.Fail(api.Errno(-7)) }, api.Errno(-7)},
		"FailOK":    {func(r *wire.Reader) { r.Fail(api.ErrHead); r.Fail(api.OK) }, api.ErrHead},
		"FailLater": {func(r *wire.Reader) { r.Blob(0); r.Fail(api.ErrSum) }, api.ErrForm},
		"ShortForm": {func(r *wire.Reader) { r.Num(6); r.Num(7); r.Blob(0) }, api.ErrShort},
		"End":       {func(r *wire.Reader) { r.Num(2); r.End() }, api.ErrForm},
		"EndFail":   {func(r *wire.Reader) { r.End(); r.Fail(api.ErrSum) }, api.ErrForm},
		"FailEnd":   {func(r *wire.Reader) { r.Fail(api.ErrSum); r.End() }, api.ErrSum},
	} {
		r := wire.Read(b)
		c.fail(r)
		failed(t, name, r, c.want)
		r.Fail(api.ErrTale)
		failed(t, name, r, c.want)
	}
}

// P1.3: Fail(OK) does nothing; without an error, End depends on what is left.
func TestNoError(t *testing.T) {
	r := wire.Read([]byte{3, 4})
	r.Fail(api.OK)
	if r.Err() != api.OK || r.Left() != 2 || r.Num(1) != 3 {
		t.Error("Fail(OK) did something")
	}
	if r.Num(1) != 4 || r.End() != api.OK || r.End() != api.OK || r.Err() != api.OK {
		t.Error("End of all bytes:", r.Err())
	}
	if r.Num(1); r.End() != api.ErrShort {
		t.Error("reading beyond the end:", r.Err())
	}
	if r = wire.Read(nil); r.Left() != 0 || r.Err() != api.OK || r.End() != api.OK {
		t.Error("no bytes:", r.Err())
	}
	r = wire.Read(nil)
	r.Fail(api.ErrEntry)
	failed(t, "no bytes", r, api.ErrEntry)
}

// P1.3: End fails however few bytes are left, and its error remains.
func TestEndWithRest(t *testing.T) {
	for n := range 6 {
		r := wire.Read(make([]byte, 6))
		for range n {
			r.Num(1)
		}
		if r.Left() != 6-n || r.Err() != api.OK {
			t.Errorf("%d of 6 bytes read: %d left, error %d", n, r.Left(), r.Err())
		}
		if e := r.End(); e != api.ErrForm {
			t.Errorf("End with %d bytes left: %d", 6-n, e)
		}
		failed(t, "rest", r, api.ErrForm)
	}
}

// P1.3: a nil Reader answers, and Fail leaves it as it is.
func TestNilReader(t *testing.T) {
	var r *wire.Reader
	failed(t, "nil", r, api.ErrArg)
	r.Fail(api.ErrSum)
	r.Fail(api.OK)
	failed(t, "nil", r, api.ErrArg)
}

// A Reader that was not made by Read is one of no bytes.
func TestZeroReader(t *testing.T) {
	var r wire.Reader
	if r.Left() != 0 || r.End() != api.OK || r.Num(1) != 0 || r.Err() != api.ErrShort {
		t.Error(r.Err())
	}
}

// field is a field that is encoded and decoded: kind 0 a number, 1 a blob, 2 a list.
type field struct {
	kind, width, n int
	x              []byte
	l              []int
}

func (f field) put(b []byte) []byte {
	switch f.kind {
	case 0:
		return wire.Num(b, f.width, f.n)
	case 1:
		return wire.Blob(b, f.x)
	}
	return wire.Nums(b, f.width, f.l)
}

func (f field) same(r *wire.Reader) bool {
	switch f.kind {
	case 0:
		return r.Num(f.width) == f.n
	case 1:
		return bytes.Equal(r.Blob(len(f.x)), f.x)
	}
	return slices.Equal(r.Nums(f.width, len(f.l)), f.l)
}

// fields makes a series of fields from a seed, by a rule that always gives the same.
func fields(seed uint64) []field {
	next := func(n int) int {
		seed = seed*6364136223846793005 + 1442695040888963407
		return int(seed>>33) % n
	}
	var out []field
	for range 1 + next(6) {
		f := field{kind: next(3), width: 1 + next(7)}
		number := func() int { return (next(1<<30)<<30 | next(1<<30)) & (1<<(8*f.width) - 1) }
		switch f.kind {
		case 0:
			f.n = number()
		case 1:
			f.x = pattern(next(20))
		case 2:
			for range next(5) {
				f.l = append(f.l, number())
			}
		}
		out = append(out, f)
	}
	return out
}

// P1.4: what was encoded is decoded; what was truncated ends in ErrShort.
func TestRoundTrip(t *testing.T) {
	for seed := range uint64(300) {
		l := fields(seed)
		var b []byte
		for _, f := range l {
			b = f.put(b)
		}
		r := wire.Read(b)
		for i, f := range l {
			if !f.same(r) {
				t.Fatalf("seed %d: field %d is another one", seed, i)
			}
		}
		if r.End() != api.OK {
			t.Fatalf("seed %d: End %d", seed, r.End())
		}
		for n := range b {
			r := wire.Read(b[:n])
			for _, f := range l {
				f.same(r)
			}
			if r.End() != api.ErrShort {
				t.Fatalf("seed %d truncated to %d bytes: End %d", seed, n, r.End())
			}
		}
	}
}

// P1.4: the largest fields.
func TestRoundTripLargest(t *testing.T) {
	l := make([]int, 255)
	for i := range l {
		l[i] = 1<<56 - 1 - i
	}
	x := pattern(65535)
	r := wire.Read(wire.Nums(wire.Blob(wire.Num(nil, 7, 1<<56-1), x), 7, l))
	if r.Num(7) != 1<<56-1 || !bytes.Equal(r.Blob(65535), x) || !slices.Equal(r.Nums(7, 255), l) || r.End() != api.OK {
		t.Error(r.Err())
	}
}
