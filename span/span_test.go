package span_test

import (
	"math"
	"slices"
	"testing"

	"terrazzo/api"
	"terrazzo/span"
)

const bound = 1 << 40 // the first offset at which there is no byte

// list makes spans of pairs of ends.
func list(ends ...int) []api.Span {
	var l []api.Span
	for i := 0; i < len(ends); i += 2 {
		l = append(l, api.Span{From: ends[i], To: ends[i+1]})
	}
	return l
}

// bits are the bytes of l among the 64 offsets from base on, by the words of
// the chapter: bit k tells of offset base+k.
func bits(l []api.Span, base int) uint64 {
	var set uint64
	for k := range 64 {
		n := base + k
		for _, s := range l {
			if s.From <= n && n < s.To && 0 <= n && n < bound {
				set |= 1 << k
			}
		}
	}
	return set
}

// canonical is the canonical list of a set of bits.
func canonical(set uint64, base int) []api.Span {
	var l []api.Span
	for k := 0; k < 64; k++ {
		if set>>k&1 == 0 {
			continue
		}
		from := k
		for k < 64 && set>>k&1 == 1 {
			k++
		}
		l = append(l, api.Span{From: base + from, To: base + k})
	}
	return l
}

// count is the number of bits of a set.
func count(set uint64) int {
	n := 0
	for ; set != 0; set &= set - 1 {
		n++
	}
	return n
}

// isCanonical follows the words of the chapter.
func isCanonical(l []api.Span) bool {
	for i, s := range l {
		if s.From >= s.To || s.From < 0 || s.To > bound {
			return false
		}
		if i > 0 && s.From <= l[i-1].To {
			return false
		}
	}
	return true
}

// smallLists are all lists of up to two spans with ends from low to high.
func smallLists(low, high int) [][]api.Span {
	var spans []api.Span
	for from := low; from <= high; from++ {
		for to := low; to <= high; to++ {
			spans = append(spans, api.Span{From: from, To: to})
		}
	}
	lists := [][]api.Span{nil}
	for _, s := range spans {
		lists = append(lists, []api.Span{s})
		for _, u := range spans {
			lists = append(lists, []api.Span{s, u})
		}
	}
	return lists
}

// random yields numbers that are the same in every run.
type random uint64

func (r *random) below(n int) int {
	*r = *r*6364136223846793005 + 1442695040888963407
	return int(uint64(*r) >> 33 % uint64(n))
}

// spans are up to 12 spans whose ends are among the 64 offsets from base on,
// many of them adjacent, empty, or with To less than From.
func (r *random) spans(base int) []api.Span {
	width := 1 + r.below(12)
	l := make([]api.Span, r.below(13))
	for i := range l {
		from := r.below(64)
		to := min(max(from+r.below(width+2)-1, 0), 63)
		l[i] = api.Span{From: base + from, To: base + to}
		if i > 0 && r.below(4) == 0 {
			l[i].From = l[i-1].To
		}
		if r.below(10) == 0 {
			l[i] = l[r.below(i+1)]
		}
	}
	return l
}

// bases are where windows of 64 offsets begin: at and about 0, in the middle,
// about and beyond 2^40.
func bases() []int {
	return []int{0, -10, -63, -64, -1000, 1000, bound/2 - 1, bound - 63, bound - 64, bound - 30, bound - 1, bound, bound + 1, math.MinInt, math.MaxInt - 64}
}

// check compares what is promised of one list with its bits.
func check(t *testing.T, l []api.Span, base int) {
	t.Helper()
	set := bits(l, base)
	want := canonical(set, base)
	if got := span.Clean(l); !slices.Equal(got, want) {
		t.Fatalf("Clean(%v) = %v, want %v", l, got, want)
	}
	if got := span.Many(l); got != count(set) {
		t.Fatalf("Many(%v) = %d, want %d", l, got, count(set))
	}
	for k := range 64 {
		if got, want := span.Has(l, base+k), set>>k&1 == 1; got != want {
			t.Fatalf("Has(%v, %d) = %v, want %v", l, base+k, got, want)
		}
	}
}

// operations are the functions of two lists with what they do to bits.
func operations() []operation {
	return []operation{
		{"Join", span.Join, func(a, b uint64) uint64 { return a | b }},
		{"Meet", span.Meet, func(a, b uint64) uint64 { return a & b }},
		{"Less", span.Less, func(a, b uint64) uint64 { return a &^ b }},
	}
}

type operation struct {
	name string
	do   func(a, b []api.Span) []api.Span
	bits func(a, b uint64) uint64
}

// checkBoth compares what is promised of two lists with their bits.
func checkBoth(t *testing.T, a, b []api.Span, setA, setB uint64, base int) {
	t.Helper()
	for _, op := range operations() {
		want := canonical(op.bits(setA, setB), base)
		if got := op.do(a, b); !slices.Equal(got, want) {
			t.Fatalf("%s(%v, %v) = %v, want %v", op.name, a, b, got, want)
		}
	}
	if got, want := span.Within(a, b), setA&^setB == 0; got != want {
		t.Fatalf("Within(%v, %v) = %v, want %v", a, b, got, want)
	}
}

// P4.1: the example of the chapter, and the edges by hand.
func TestClean(t *testing.T) {
	for _, c := range []struct{ l, want []api.Span }{
		{list(5, 7, 1, 3, 3, 5, 9, 9), list(1, 7)},
		{nil, nil},
		{[]api.Span{}, nil},
		{list(0, 0), nil},
		{list(5, 5), nil},
		{list(5, 4), nil},
		{list(math.MaxInt, math.MinInt), nil},
		{list(0, 1), list(0, 1)},
		{list(1, 2, 1, 2), list(1, 2)},
		{list(1, 2, 2, 3), list(1, 3)},
		{list(2, 3, 1, 2), list(1, 3)},
		{list(1, 2, 3, 4), list(1, 2, 3, 4)},
		{list(3, 4, 1, 2), list(1, 2, 3, 4)},
		{list(1, 9, 3, 5), list(1, 9)},
		{list(3, 5, 1, 9), list(1, 9)},
		{list(1, 9, 1, 5, 1, 11), list(1, 11)},
		{list(1, 9, 3, 5, 7, 8, 9, 10), list(1, 10)},
		{list(1, 3, 2, 2, 4, 4, 5, 6), list(1, 3, 5, 6)},
		{list(1, 3, 5, 3, 5, 6), list(1, 3, 5, 6)},
		{list(4, 3, -5, 2), list(0, 2)},
		{list(-5, 0), nil},
		{list(-5, -2), nil},
		{list(-5, 0, 0, 1), list(0, 1)},
		{list(-5, 1, -9, 2), list(0, 2)},
		{list(0, bound), list(0, bound)},
		{list(0, bound+1), list(0, bound)},
		{list(bound-1, bound), list(bound-1, bound)},
		{list(bound-1, bound+1), list(bound-1, bound)},
		{list(bound-2, bound+1, bound-2, bound-1), list(bound-2, bound)},
		{list(bound-2, bound-1, bound-1, bound+1), list(bound-2, bound)},
		{list(bound, bound+1), nil},
		{list(bound, bound), nil},
		{list(bound+1, bound+2), nil},
		{list(0, 1, bound, bound+1), list(0, 1)},
		{list(math.MinInt, math.MaxInt), list(0, bound)},
		{list(math.MaxInt-1, math.MaxInt), nil},
		{list(math.MinInt, math.MinInt+1), nil},
	} {
		if got := span.Clean(c.l); !slices.Equal(got, c.want) {
			t.Errorf("Clean(%v) = %v, want %v", c.l, got, c.want)
		}
	}
}

// P4.1: no offset outside 0 to 2^40 - 1 is a byte, whatever the spans say.
func TestHasAtTheBounds(t *testing.T) {
	all := list(math.MinInt, math.MaxInt)
	for _, c := range []struct {
		l    []api.Span
		n    int
		want bool
	}{
		{all, 0, true},
		{all, -1, false},
		{all, math.MinInt, false},
		{all, bound - 1, true},
		{all, bound, false},
		{all, bound + 1, false},
		{all, math.MaxInt - 1, false},
		{all, math.MaxInt, false},
		{nil, 0, false},
		{list(3, 5), 2, false},
		{list(3, 5), 3, true},
		{list(3, 5), 4, true},
		{list(3, 5), 5, false},
		{list(5, 3), 3, false},
		{list(5, 3), 4, false},
		{list(4, 4), 4, false},
		{list(8, 9, 3, 5), 4, true},
		{list(8, 9, 3, 5), 8, true},
		{list(8, 9, 3, 5), 6, false},
		{list(0, bound), bound - 1, true},
		{list(bound, bound+1), bound, false},
	} {
		if got := span.Has(c.l, c.n); got != c.want {
			t.Errorf("Has(%v, %d) = %v, want %v", c.l, c.n, got, c.want)
		}
	}
}

// P4.1: each byte is counted once, also where the numbers are great.
func TestManyAtTheBounds(t *testing.T) {
	for _, c := range []struct {
		l    []api.Span
		want int
	}{
		{nil, 0},
		{list(7, 3), 0},
		{list(math.MaxInt, math.MinInt), 0},
		{list(0, 5, 3, 7), 7},
		{list(3, 7, 0, 5, 3, 7), 7},
		{list(0, bound), bound},
		{list(0, bound+1), bound},
		{list(math.MinInt, math.MaxInt), bound},
		{list(math.MinInt, math.MaxInt, math.MinInt, math.MaxInt), bound},
		{list(math.MinInt, 1, bound-1, math.MaxInt), 2},
		{list(math.MinInt, 0, bound, math.MaxInt), 0},
	} {
		if got := span.Many(c.l); got != c.want {
			t.Errorf("Many(%v) = %d, want %d", c.l, got, c.want)
		}
	}
}

// P4.1: all lists of up to two spans about 0 and about 2^40, and longer ones
// in all windows.
func TestOneList(t *testing.T) {
	for _, l := range smallLists(-2, 4) {
		check(t, l, -8)
	}
	for _, l := range smallLists(bound-3, bound+2) {
		check(t, l, bound-20)
	}
	r := random(1)
	for _, base := range bases() {
		for range 500 {
			check(t, r.spans(base), base)
		}
	}
}

// P4.2: the examples of the chapter, and the edges by hand.
func TestTwoListsByHand(t *testing.T) {
	all := list(math.MinInt, math.MaxInt)
	for _, c := range []struct {
		a, b, join, meet, less []api.Span
		within                 bool
	}{
		{a: nil, b: nil, within: true},
		{a: []api.Span{}, b: list(4, 4), within: true},
		{a: nil, b: list(1, 3), join: list(1, 3), within: true},
		{a: list(3, 1), b: list(1, 3), join: list(1, 3), within: true},
		{a: list(3, 1), b: nil, within: true},
		{a: list(1, 3), b: nil, join: list(1, 3), less: list(1, 3)},
		{a: list(0, 10), b: list(3, 4, 6, 20), join: list(0, 20), meet: list(3, 4, 6, 10), less: list(0, 3, 4, 6)},
		{a: list(3, 4, 6, 20), b: list(0, 10), join: list(0, 20), meet: list(3, 4, 6, 10), less: list(10, 20)},
		{a: list(1, 3), b: list(3, 5), join: list(1, 5), less: list(1, 3)},
		{a: list(3, 5), b: list(1, 3), join: list(1, 5), less: list(3, 5)},
		{a: list(1, 2), b: list(4, 5), join: list(1, 2, 4, 5), less: list(1, 2)},
		{a: list(1, 9), b: list(3, 5), join: list(1, 9), meet: list(3, 5), less: list(1, 3, 5, 9)},
		{a: list(3, 5), b: list(1, 9), join: list(1, 9), meet: list(3, 5), within: true},
		{a: list(3, 5), b: list(3, 9), join: list(3, 9), meet: list(3, 5), within: true},
		{a: list(5, 9), b: list(3, 9), join: list(3, 9), meet: list(5, 9), within: true},
		{a: list(3, 9), b: list(3, 5), join: list(3, 9), meet: list(3, 5), less: list(5, 9)},
		{a: list(0, 10, 5, 12), b: list(0, 12), join: list(0, 12), meet: list(0, 12), within: true},
		{a: list(0, 12), b: list(5, 12, 0, 5), join: list(0, 12), meet: list(0, 12), within: true},
		{a: list(1, 2, 4, 5), b: list(1, 2, 4, 6), join: list(1, 2, 4, 6), meet: list(1, 2, 4, 5), within: true},
		{a: list(1, 2, 4, 5), b: list(1, 2), join: list(1, 2, 4, 5), meet: list(1, 2), less: list(4, 5)},
		{a: list(1, 2), b: list(1, 2, 4, 5), join: list(1, 2, 4, 5), meet: list(1, 2), within: true},
		{a: all, b: all, join: list(0, bound), meet: list(0, bound), within: true},
		{a: all, b: list(0, bound), join: list(0, bound), meet: list(0, bound), within: true},
		{a: all, b: nil, join: list(0, bound), less: list(0, bound)},
		{a: all, b: list(0, bound-1), join: list(0, bound), meet: list(0, bound-1), less: list(bound-1, bound)},
		{a: all, b: list(1, bound+1), join: list(0, bound), meet: list(1, bound), less: list(0, 1)},
		{a: list(5, bound+1), b: list(5, bound), join: list(5, bound), meet: list(5, bound), within: true},
		{a: list(bound, bound+1, -3, 0), b: nil, within: true},
		{a: nil, b: list(bound, bound+1, -3, 0), within: true},
		{a: list(-3, 2), b: list(-9, 1), join: list(0, 2), meet: list(0, 1), less: list(1, 2)},
	} {
		for _, r := range []struct {
			name      string
			got, want []api.Span
		}{
			{"Join", span.Join(c.a, c.b), c.join},
			{"Meet", span.Meet(c.a, c.b), c.meet},
			{"Less", span.Less(c.a, c.b), c.less},
		} {
			if !slices.Equal(r.got, r.want) {
				t.Errorf("%s(%v, %v) = %v, want %v", r.name, c.a, c.b, r.got, r.want)
			}
		}
		if got := span.Within(c.a, c.b); got != c.within {
			t.Errorf("Within(%v, %v) = %v, want %v", c.a, c.b, got, c.within)
		}
	}
}

// P4.2: all pairs of lists of up to two spans about 0, and longer ones in all
// windows.
func TestTwoLists(t *testing.T) {
	lists := smallLists(-1, 3)
	sets := make([]uint64, len(lists))
	for i, l := range lists {
		sets[i] = bits(l, -1)
	}
	for i, a := range lists {
		for j, b := range lists {
			checkBoth(t, a, b, sets[i], sets[j], -1)
		}
	}
	r := random(2)
	for _, base := range bases() {
		for range 500 {
			a, b := r.spans(base), r.spans(base)
			checkBoth(t, a, b, bits(a, base), bits(b, base), base)
		}
	}
}

// P4.3: lists with the same bytes have the same canonical list, which is the
// same list again when it is made canonical.
func TestSameBytes(t *testing.T) {
	byBits := map[uint64][]api.Span{}
	for _, l := range smallLists(-2, 4) {
		clean := span.Clean(l)
		if !isCanonical(clean) {
			t.Fatalf("Clean(%v) = %v is not canonical", l, clean)
		}
		if got := span.Clean(clean); !slices.Equal(got, clean) {
			t.Fatalf("Clean(%v) = %v", clean, got)
		}
		set := bits(l, -2)
		if first, ok := byBits[set]; ok && !slices.Equal(first, clean) {
			t.Fatalf("Clean(%v) = %v, but %v has the same bytes", l, clean, first)
		}
		byBits[set] = clean
	}
	if len(byBits) != 16 { // all sets of the bytes 0 to 3
		t.Errorf("%d sets of bytes", len(byBits))
	}
}

// P4.3: Meet and Less are disjoint, and their union is a; the order of the
// spans has no effect.
func TestMeetAndLess(t *testing.T) {
	r := random(3)
	for _, base := range bases() {
		for range 300 {
			a, b := r.spans(base), r.spans(base)
			meet, less := span.Meet(a, b), span.Less(a, b)
			if both := span.Meet(meet, less); len(both) != 0 {
				t.Fatalf("Meet and Less of %v and %v have %v in common", a, b, both)
			}
			if got, want := span.Join(meet, less), span.Clean(a); !slices.Equal(got, want) {
				t.Fatalf("Meet and Less of %v and %v are %v together, want %v", a, b, got, want)
			}
			backwards := slices.Clone(a)
			slices.Reverse(backwards)
			if got := span.Less(backwards, b); !slices.Equal(got, less) {
				t.Fatalf("Less(%v, %v) = %v, but forwards %v", backwards, b, got, less)
			}
		}
	}
}

// spare returns l with spare capacity, and a function that reports whether l
// and the spare capacity are as they were.
func spare(l []api.Span) ([]api.Span, func() bool) {
	full := append(slices.Clone(l), list(-7, -6, 11, 12, 3, 1)...)
	before := slices.Clone(full)
	return full[:len(l)], func() bool { return slices.Equal(full, before) }
}

// P4.1, P4.2: the lists that are handed in stay as they were, with their spare
// capacity, also when what was returned is changed and appended to.
func TestArgumentsStay(t *testing.T) {
	spoil := func(l []api.Span) {
		l = append(l, list(-1, -1)...)
		l = l[:cap(l)]
		for i := range l {
			l[i] = api.Span{From: -1, To: -1}
		}
	}
	for _, c := range []struct{ a, b []api.Span }{
		{list(5, 7, 1, 3, 3, 5, 9, 9), list(2, 6, -3, 1, 8, bound+1)},
		{list(1, 3), list(1, 3)},
		{list(1, 3), nil},
		{nil, list(1, 3)},
		{list(1, 3, 5, 6), list(0, 9)},
		{nil, nil},
	} {
		a, sameA := spare(c.a)
		b, sameB := spare(c.b)
		span.Has(a, 5)
		span.Many(a)
		span.Within(a, b)
		for _, out := range [][]api.Span{span.Clean(a), span.Clean(b), span.Join(a, b), span.Meet(a, b), span.Less(a, b)} {
			spoil(out)
			if !sameA() || !sameB() {
				t.Fatalf("the lists %v and %v have changed", c.a, c.b)
			}
		}
		want := canonical(bits(c.a, 0)|bits(c.b, 0), 0)
		if len(want) > 0 && want[len(want)-1].To == 64 {
			want[len(want)-1].To = bound
		}
		if got := span.Join(a, b); !slices.Equal(got, want) {
			t.Fatalf("Join(%v, %v) = %v, want %v, after the results before were changed", a, b, got, want)
		}
	}
}

// P4.1, P4.2: one list as both arguments.
func TestOneListTwice(t *testing.T) {
	l := list(5, 7, 1, 3, 9, 9)
	want := list(1, 3, 5, 7)
	if got := span.Join(l, l); !slices.Equal(got, want) {
		t.Errorf("Join = %v", got)
	}
	if got := span.Meet(l, l); !slices.Equal(got, want) {
		t.Errorf("Meet = %v", got)
	}
	if got := span.Less(l, l); len(got) != 0 {
		t.Errorf("Less = %v", got)
	}
	if !span.Within(l, l) {
		t.Error("Within = false")
	}
}

// P4.1, P4.2: lists of many spans, in an order that is not theirs.
func TestManySpans(t *testing.T) {
	const n = 100003
	var even, odd []api.Span
	for i := range n {
		at := i * 40009 % n * 2
		even = append(even, api.Span{From: at, To: at + 1})
		odd = append(odd, api.Span{From: at + 1, To: at + 2})
	}
	if got := span.Many(even); got != n {
		t.Errorf("Many = %d", got)
	}
	if got := span.Join(even, odd); !slices.Equal(got, list(0, 2*n)) {
		t.Errorf("Join has %d spans", len(got))
	}
	if got := span.Meet(even, odd); len(got) != 0 {
		t.Errorf("Meet has %d spans", len(got))
	}
	if got := span.Less(list(0, 2*n), odd); !slices.Equal(got, span.Clean(even)) || len(got) != n {
		t.Errorf("Less has %d spans", len(got))
	}
	if span.Within(even, odd) || !span.Within(even, list(0, 2*n-1)) {
		t.Error("Within")
	}
}
