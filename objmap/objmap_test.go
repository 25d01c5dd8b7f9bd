package objmap_test

import (
	"bytes"
	"fmt"
	"math"
	"slices"
	"testing"

	"terrazzo/api"
	"terrazzo/objmap"
)

const most = 512 // objects that a map can have a state of

// whole is a map by the words of the chapter: a state for each object.
type whole [most]int

func wholeOf(m []int) whole {
	var w whole
	for i, s := range m {
		if i < most && (s == 1 || s == 2) {
			w[i] = s
		}
	}
	return w
}

// canonical is the canonical map of these states.
func (w whole) canonical() []int {
	for n := most; n > 0; n-- {
		if w[n-1] != 0 {
			return w[:n]
		}
	}
	return nil
}

func wholeSet(m []int, i, state int) []int {
	w := wholeOf(m)
	if i >= 0 && i < most && state >= 0 && state <= 2 {
		w[i] = state
	}
	return w.canonical()
}

func wholeFresh(m []int) []int {
	w := wholeOf(m)
	for i, s := range w {
		if s == 1 {
			w[i] = 2
		}
	}
	return w.canonical()
}

func wholeMerge(older, newer []int) []int {
	w, o := wholeOf(newer), wholeOf(older)
	for i, s := range w {
		if s == 2 && o[i] == 1 {
			w[i] = 1
		}
	}
	return w.canonical()
}

func wholeChanged(first []int, rest [][]int) []int {
	f := wholeOf(first)
	var is [most]bool
	for _, m := range rest {
		for i, s := range wholeOf(m) {
			switch {
			case s == 1, s == 0 && f[i] != 0, s != 0 && f[i] == 0:
				is[i] = true
			}
		}
	}
	var l []int
	for i := range most {
		if is[i] {
			l = append(l, i)
		}
	}
	return l
}

// wholePack puts the bits of the states one after the other.
func wholePack(m []int) []byte {
	states := wholeOf(m).canonical()
	b := []byte{byte(len(states) / 256), byte(len(states) % 256)}
	for len(states) > 0 {
		four := append(slices.Clone(states[:min(4, len(states))]), 0, 0, 0)
		b = append(b, byte(four[0]+4*four[1]+16*four[2]+64*four[3]))
		states = states[min(4, len(states)):]
	}
	return b
}

// wholeCheck follows the words of the chapter.
func wholeCheck(m []int) bool {
	for i, s := range m {
		if s != 0 && s != 1 && s != 2 || i == most || s == 0 && i == len(m)-1 {
			return false
		}
	}
	return true
}

// all are all maps of up to so many of these elements.
func all(longest int, elements ...int) [][]int {
	maps := [][]int{nil}
	last := maps
	for range longest {
		var longer [][]int
		for _, m := range last {
			for _, s := range elements {
				longer = append(longer, append(slices.Clone(m), s))
			}
		}
		maps, last = append(maps, longer...), longer
	}
	return maps
}

// noStates are elements that are no state, among them some whose low bits are
// those of one.
func noStates() []int {
	return []int{-1, 3, 4, 5, 6, -2, -3, 256, 257, 258, 1 << 32, 1<<32 + 1, math.MinInt, math.MinInt + 1, math.MaxInt, math.MaxInt - 1}
}

// lengths are numbers of elements about each edge of a map and of its bytes.
func lengths() []int {
	return []int{0, 1, 2, 3, 4, 5, 7, 8, 9, 255, 256, 257, 258, 259, 260, 261, 508, 509, 510, 511, 512, 513, 514, 516, 517, 600, 1024, 1025}
}

// random yields numbers that are the same in every run.
type random uint64

func (r *random) below(n int) int {
	*r = *r*6364136223846793005 + 1442695040888963407
	return int(uint64(*r) >> 33 % uint64(n))
}

// states is a map of n elements that are states, many of them None where
// sparse is great.
func (r *random) states(n, sparse int) []int {
	m := make([]int, n)
	for i := range m {
		if r.below(sparse+1) == 0 {
			m[i] = r.below(3)
		}
	}
	return m
}

// elements is a map of n elements, some of which are no state.
func (r *random) elements(n int) []int {
	m := r.states(n, r.below(3))
	for i := range m {
		if r.below(5) == 0 {
			m[i] = noStates()[r.below(len(noStates()))]
		}
	}
	return m
}

// several are maps of different lengths, which end in different ways.
func (r *random) several() [][]int {
	var maps [][]int
	for _, n := range lengths() {
		maps = append(maps, r.elements(n), r.states(n, 1), append(r.elements(n), 0, 0, 0), append(r.elements(n), 3, 0, -1))
	}
	return maps
}

// short tells a map without its middle.
func short(m []int) string {
	if len(m) < 40 {
		return fmt.Sprint(m)
	}
	return fmt.Sprintf("%v .. %v (%d)", m[:20], m[len(m)-20:], len(m))
}

// same fails the test unless a list is the expected one.
func same(t *testing.T, got, want []int, call string, args ...any) {
	t.Helper()
	if !slices.Equal(got, want) {
		for i, a := range args {
			if m, ok := a.([]int); ok {
				args[i] = short(m)
			}
		}
		t.Fatalf("%s = %s, want %s", fmt.Sprintf(call, args...), short(got), short(want))
	}
}

// one compares what is promised of one map with its model.
func one(t *testing.T, m []int) {
	t.Helper()
	w := wholeOf(m)
	if got, want := objmap.Check(m), wholeCheck(m); got != want {
		t.Fatalf("Check(%s) = %v", short(m), got)
	}
	for _, i := range []int{-1, math.MinInt, most, most + 1, math.MaxInt, len(m), len(m) + 1, len(m) + 4} {
		if i >= 0 && i < most {
			continue
		}
		if got := objmap.Get(m, i); got != 0 {
			t.Fatalf("Get(%s, %d) = %d", short(m), i, got)
		}
	}
	for i := range most {
		if got := objmap.Get(m, i); got != w[i] {
			t.Fatalf("Get(%s, %d) = %d, want %d", short(m), i, got, w[i])
		}
	}
	same(t, objmap.Fresh(m), wholeFresh(m), "Fresh(%v)", m)
	b := objmap.Pack(m)
	if want := wholePack(m); !bytes.Equal(b, want) {
		t.Fatalf("Pack(%s) = %v, want %v", short(m), b, want)
	}
	back, ok := objmap.Unpack(b)
	if !ok {
		t.Fatalf("Unpack(Pack(%s)) fails", short(m))
	}
	same(t, back, w.canonical(), "Unpack(Pack(%v))", m)
}

// P5.1 to P5.4: the examples of the chapter.
func TestExamples(t *testing.T) {
	same(t, objmap.Set(nil, 1, api.Dirty), []int{0, 1}, "Set")
	same(t, objmap.Fresh([]int{1, 0, 2}), []int{2, 0, 2}, "Fresh")
	same(t, objmap.Changed([]int{2, 0, 2}, [][]int{{2, 1}, {2, 2}}), []int{1, 2}, "Changed")
	if got := objmap.Pack([]int{1, 2, 0, 0, 1}); !bytes.Equal(got, []byte{0, 5, 9, 1}) {
		t.Errorf("Pack = %v", got)
	}
}

// P5.1: Check, by hand.
func TestCheck(t *testing.T) {
	long := func(n int) []int { return slices.Repeat([]int{2}, n) }
	for _, c := range []struct {
		m    []int
		want bool
	}{
		{nil, true},
		{[]int{}, true},
		{[]int{0}, false},
		{[]int{1}, true},
		{[]int{2}, true},
		{[]int{3}, false},
		{[]int{-1}, false},
		{[]int{0, 0, 1}, true},
		{[]int{1, 0, 2}, true},
		{[]int{1, 2, 0}, false},
		{[]int{1, 3, 2}, false},
		{[]int{-1, 1}, false},
		{long(511), true},
		{long(512), true},
		{long(513), false},
		{long(1024), false},
		{append(long(511), 0), false},
		{append(long(512), 0), false},
		{append(long(512), 3), false},
		{append(long(511), 3), false},
	} {
		if got := objmap.Check(c.m); got != c.want {
			t.Errorf("Check(%s) = %v", short(c.m), got)
		}
	}
	for _, s := range noStates() {
		if objmap.Check([]int{s}) || objmap.Check([]int{1, s, 1}) {
			t.Errorf("Check accepts %d", s)
		}
	}
}

// P5.1: Get and Set about the first object and the last one.
func TestGetAndSetAtTheBounds(t *testing.T) {
	long := slices.Repeat([]int{1, 2}, 257) // 514 elements
	for _, c := range []struct {
		m       []int
		i, want int
	}{
		{nil, 0, 0},
		{[]int{2}, -1, 0},
		{[]int{2}, math.MinInt, 0},
		{[]int{2}, 0, 2},
		{[]int{2}, 1, 0},
		{[]int{2, 1}, 1, 1},
		{[]int{2, 3, 1}, 1, 0},
		{[]int{2, -1, 1}, 1, 0},
		{long, 510, 1},
		{long, 511, 2},
		{long, 512, 0},
		{long, 513, 0},
		{long, 514, 0},
		{long, math.MaxInt, 0},
	} {
		if got := objmap.Get(c.m, c.i); got != c.want {
			t.Errorf("Get(%s, %d) = %d, want %d", short(c.m), c.i, got, c.want)
		}
	}
	last := append(make([]int, 511), 1)
	for _, c := range []struct {
		m        []int
		i, state int
		want     []int
	}{
		{nil, 0, 2, []int{2}},
		{nil, 0, 0, nil},
		{nil, 511, 1, last},
		{nil, 512, 1, nil},
		{nil, -1, 1, nil},
		{nil, math.MaxInt, 1, nil},
		{nil, math.MinInt, 1, nil},
		{last, 511, 0, nil},
		{last, 512, 0, last},
		{[]int{1, 2}, 1, 0, []int{1}},
		{[]int{0, 0, 2}, 2, 0, nil},
		{[]int{1, 0, 0, 2}, 3, 0, []int{1}},
		{[]int{1, 0, 0}, 1, 2, []int{1, 2}},
		{[]int{1, 2}, 4, 0, []int{1, 2}},
		{[]int{1, 2}, 3, 1, []int{1, 2, 0, 1}},
		{[]int{1, 7}, 3, 1, []int{1, 0, 0, 1}},
		{[]int{1, 7}, 0, 2, []int{2}},
		{[]int{1, 7}, 1, 2, []int{1, 2}},
		{[]int{1, 7, 2, 0}, 0, 7, []int{1, 0, 2}},
		{[]int{1, 7, 2, 0}, 0, -1, []int{1, 0, 2}},
		{[]int{1, 7, 2, 0}, -1, 2, []int{1, 0, 2}},
		{[]int{1, 7, 2, 0}, 512, 2, []int{1, 0, 2}},
		{long, 512, 2, long[:512]},
		{long, 513, 0, long[:512]},
		{long, 511, 0, long[:511]},
	} {
		same(t, objmap.Set(c.m, c.i, c.state), c.want, "Set(%v, %d, %d)", c.m, c.i, c.state)
	}
}

// P5.1, P5.2, P5.4: all short maps, also of elements that are no state, and
// maps of all lengths.
func TestOneMap(t *testing.T) {
	for _, m := range all(5, 0, 1, 2, 3, -1) {
		one(t, m)
	}
	for _, s := range noStates() {
		for _, m := range all(3, 0, 1, s) {
			one(t, m)
		}
	}
	r := random(1)
	for range 20 {
		for _, m := range r.several() {
			one(t, m)
		}
	}
}

// P5.1: Set of each object about each edge to each state, and to what is none.
func TestSet(t *testing.T) {
	values := append([]int{0, 1, 2}, noStates()...)
	objects := []int{-2, -1, 0, 1, 2, 3, 4, 5, 6, 255, 256, 257, 510, 511, 512, 513, 514, 1024, 1 << 32, math.MinInt, math.MaxInt}
	r := random(2)
	for _, m := range append(all(3, 0, 1, 2, 3), r.several()...) {
		for _, i := range append(objects, len(m)-1, len(m), len(m)+1, r.below(most)) {
			for _, state := range values {
				got := objmap.Set(m, i, state)
				same(t, got, wholeSet(m, i, state), "Set(%v, %d, %d)", m, i, state)
				if !objmap.Check(got) {
					t.Fatalf("Check(Set(%s, %d, %d)) = false", short(m), i, state)
				}
			}
		}
	}
}

// P5.2: Merge, by hand.
func TestMergeByHand(t *testing.T) {
	for _, c := range []struct{ older, newer, want []int }{
		{nil, nil, nil},
		{[]int{1, 1}, nil, nil},
		{nil, []int{1, 0, 2}, []int{1, 0, 2}},
		{nil, []int{1, 0, 2, 0, 3}, []int{1, 0, 2}},
		{[]int{0, 0, 0, 1, 1, 1, 2, 2, 2}, []int{0, 1, 2, 0, 1, 2, 0, 1, 2}, []int{0, 1, 2, 0, 1, 1, 0, 1, 2}},
		{[]int{1}, []int{2, 2}, []int{1, 2}},
		{[]int{1, 1, 1}, []int{2}, []int{1}},
		{[]int{1, 1, 1}, []int{2, 0, 0}, []int{1}},
		{[]int{3, 257, -1}, []int{2, 2, 2}, []int{2, 2, 2}},
		{[]int{1, 1, 1}, []int{3, 258, 2}, []int{0, 0, 1}},
		{slices.Repeat([]int{1}, 513), slices.Repeat([]int{2}, 513), slices.Repeat([]int{1}, 512)},
		{slices.Repeat([]int{1}, 511), slices.Repeat([]int{2}, 512), append(slices.Repeat([]int{1}, 511), 2)},
		{slices.Repeat([]int{1}, 600), append(make([]int, 512), 2), nil},
	} {
		same(t, objmap.Merge(c.older, c.newer), c.want, "Merge(%v, %v)", c.older, c.newer)
	}
}

// P5.2: Merge of all pairs of short maps, and of maps of all lengths.
func TestMerge(t *testing.T) {
	pair := func(older, newer []int) {
		same(t, objmap.Merge(older, newer), wholeMerge(older, newer), "Merge(%v, %v)", older, newer)
	}
	maps := all(3, 0, 1, 2, 3)
	for _, older := range maps {
		for _, newer := range maps {
			pair(older, newer)
		}
	}
	r := random(3)
	long := r.several()
	for _, older := range long {
		for _, newer := range long {
			pair(older, newer)
		}
	}
}

// P5.3: Changed, by hand.
func TestChangedByHand(t *testing.T) {
	dirty, clean := slices.Repeat([]int{1}, 514), slices.Repeat([]int{2}, 514)
	var every []int
	for i := range most {
		every = append(every, i)
	}
	for _, c := range []struct {
		first []int
		rest  [][]int
		want  []int
	}{
		{nil, nil, nil},
		{[]int{1, 2}, nil, nil},
		{[]int{1, 2}, [][]int{}, nil},
		{nil, [][]int{nil}, nil},
		{nil, [][]int{nil, {}, {0, 0}, {3}}, nil},
		{[]int{2}, [][]int{nil}, []int{0}},
		{[]int{2}, [][]int{{3}}, []int{0}},
		{[]int{3}, [][]int{nil}, nil},
		{[]int{3}, [][]int{{2}}, []int{0}},
		{nil, [][]int{{2}}, []int{0}},
		{nil, [][]int{{1}}, []int{0}},
		{[]int{1}, [][]int{{1}}, []int{0}},
		{[]int{2}, [][]int{{1}}, []int{0}},
		{[]int{1}, [][]int{{2}}, nil},
		{[]int{2}, [][]int{{2}}, nil},
		{[]int{2, 2, 2}, [][]int{{2, 2, 2}, {2, 2}, {2, 2, 2}}, []int{2}},
		{[]int{2, 2, 2}, [][]int{{2, 2, 2}, {2, 2, 2, 2}, {2, 2, 2}}, []int{3}},
		{[]int{2, 2, 2}, [][]int{{2, 2, 1}, {2, 2, 2}, {1, 2, 2, 0, 1}}, []int{0, 2, 4}},
		{[]int{2}, [][]int{{2, 0, 0, 1}, {2, 1}, {2, 0, 2}}, []int{1, 2, 3}},
		{nil, [][]int{dirty}, every},
		{dirty, [][]int{nil}, every},
		{dirty, [][]int{clean}, nil},
		{clean, [][]int{dirty}, every},
		{clean, [][]int{clean, clean[:511], clean[:512]}, []int{511}},
		{clean[:510], [][]int{clean}, []int{510, 511}},
		{clean[:512], [][]int{clean[:513]}, nil},
		{nil, [][]int{append(make([]int, 512), 1)}, nil},
	} {
		same(t, objmap.Changed(c.first, c.rest), c.want, "Changed(%v, %v)", c.first, c.rest)
	}
}

// P5.3: Changed of all pairs of short maps, of three maps of each state, and of
// maps of all lengths in several numbers.
func TestChanged(t *testing.T) {
	check := func(first []int, rest ...[]int) {
		same(t, objmap.Changed(first, rest), wholeChanged(first, rest), "Changed(%v, %v)", first, rest)
	}
	maps := all(3, 0, 1, 2, 3)
	for _, first := range maps {
		check(first)
		for _, m := range maps {
			check(first, m)
		}
	}
	few := all(2, 0, 1, 2, -1)
	for _, first := range few {
		for _, m := range few {
			for _, n := range few {
				check(first, m, n)
			}
		}
	}
	r := random(4)
	long := r.several()
	for range 2000 {
		rest := make([][]int, r.below(6))
		for i := range rest {
			rest[i] = long[r.below(len(long))]
		}
		check(long[r.below(len(long))], rest...)
	}
}

// packed are n times the same byte behind a number of states.
func packed(count, n int, b byte) []byte {
	return append([]byte{byte(count >> 8), byte(count)}, slices.Repeat([]byte{b}, n)...)
}

// P5.4: bytes that are the encoding of a map, by hand.
func TestUnpackByHand(t *testing.T) {
	for _, c := range []struct {
		b    []byte
		want []int
	}{
		{[]byte{0, 0}, nil},
		{[]byte{0, 1, 1}, []int{1}},
		{[]byte{0, 1, 2}, []int{2}},
		{[]byte{0, 2, 4}, []int{0, 1}},
		{[]byte{0, 4, 128}, []int{0, 0, 0, 2}},
		{[]byte{0, 4, 0x66}, []int{2, 1, 2, 1}},
		{[]byte{0, 5, 9, 1}, []int{1, 2, 0, 0, 1}},
		{packed(256, 64, 0xaa), slices.Repeat([]int{2}, 256)},
		{packed(512, 128, 0x55), slices.Repeat([]int{1}, 512)},
		{packed(512, 128, 0x99), slices.Repeat([]int{1, 2}, 256)},
	} {
		got, ok := objmap.Unpack(c.b)
		if !ok {
			t.Errorf("Unpack(%v) fails", c.b)
		}
		same(t, got, c.want, "Unpack(%v)", c.b)
	}
}

// P5.4: bytes that are not the encoding of a map, by hand.
func TestUnpackWrong(t *testing.T) {
	for _, c := range []struct {
		what string
		b    []byte
	}{
		{"no byte", nil},
		{"no byte", []byte{}},
		{"half a number", []byte{0}},
		{"no states", []byte{0, 1}},
		{"too short", []byte{0, 5, 9}},
		{"too long", []byte{0, 5, 9, 1, 0}},
		{"too long", []byte{0, 5, 9, 1, 1}},
		{"too long", []byte{0, 0, 0}},
		{"too long", []byte{0, 4, 64, 0}},
		{"fewer than said", []byte{0, 9, 9, 1}},
		{"more than said", []byte{0, 4, 9, 1}},
		{"one less than held", []byte{0, 1, 5}},
		{"one more than held", []byte{0, 3, 5}},
		{"number in the other order", []byte{5, 0, 9, 1}},
		{"an unused bit", []byte{0, 1, 5}},
		{"an unused bit", []byte{0, 1, 9}},
		{"an unused bit", []byte{0, 1, 65}},
		{"an unused bit", []byte{0, 1, 129}},
		{"an unused bit", []byte{0, 3, 0x55}},
		{"an unused bit", []byte{0, 3, 0x95}},
		{"an unused bit", []byte{0, 5, 9, 5}},
		{"an unused bit", []byte{0, 5, 9, 129}},
		{"the last one None", []byte{0, 1, 0}},
		{"the last one None", []byte{0, 4, 0x15}},
		{"the last one None", []byte{0, 5, 9, 0}},
		{"the last one None", packed(512, 128, 0x15)},
		{"no state", []byte{0, 1, 3}},
		{"no state", []byte{0, 2, 7}},
		{"no state", []byte{0, 4, 0x5d}},
		{"no state", []byte{0, 4, 0xd5}},
		{"no state", packed(512, 128, 0x57)},
		{"513 states", append(packed(513, 128, 0x55), 1)},
		{"516 states", packed(516, 129, 0x55)},
		{"514 states, the last ones None", append(packed(514, 128, 0x55), 0)},
		{"1024 states", packed(1024, 256, 0x55)},
		{"65535 states", append(packed(65535, 16383, 0x55), 0x15)},
		{"512 states and a byte", packed(512, 129, 0x55)},
		{"512 states but a byte", packed(512, 127, 0x55)},
		{"256 states but a byte", packed(256, 63, 0xaa)},
		{"65535 states said", []byte{255, 255}},
	} {
		if got, ok := objmap.Unpack(c.b); ok || len(got) != 0 {
			t.Errorf("%s: Unpack of %d bytes = %s, %v", c.what, len(c.b), short(got), ok)
		}
	}
}

// P5.4, P5.5: of all short byte strings, Unpack accepts those that are the Pack
// of a map, which it returns, and no others.
func TestUnpackAll(t *testing.T) {
	packs := map[string][]int{}
	for _, m := range all(8, 0, 1, 2) {
		packs[string(wholePack(m))] = wholeOf(m).canonical()
	}
	check := func(b ...byte) {
		want, is := packs[string(b)]
		got, ok := objmap.Unpack(b)
		if ok != is {
			t.Fatalf("Unpack(%v) = %v", b, ok)
		}
		same(t, got, want, "Unpack(%v)", b)
	}
	check()
	for x := range 256 {
		check(byte(x))
		for y := range 256 {
			check(byte(x), byte(y))
			for n := range 16 { // greater numbers are at the head of longer strings alone
				check(0, byte(n), byte(x), byte(y))
			}
			for high := range 4 {
				check(byte(high), byte(x), byte(y))
			}
		}
	}
}

// P5.4, P5.5: long encodings, and what differs from them in a bit, a byte less
// or a byte more.
func TestUnpackDamaged(t *testing.T) {
	r := random(5)
	for _, n := range lengths() {
		m := r.states(n, 1)
		b := objmap.Pack(m)
		for bit := range 8 * len(b) {
			b[bit/8] ^= 1 << (bit % 8)
			got, ok := objmap.Unpack(b)
			if ok && (!objmap.Check(got) || !bytes.Equal(wholePack(got), b)) || !ok && len(got) != 0 {
				t.Fatalf("Unpack(%v) = %s, %v", b, short(got), ok)
			}
			b[bit/8] ^= 1 << (bit % 8)
		}
		for k := range len(b) {
			if got, ok := objmap.Unpack(b[:k]); ok || len(got) != 0 {
				t.Fatalf("Unpack(%v) = %s, %v", b[:k], short(got), ok)
			}
		}
		for _, more := range []byte{0, 1, 0x55, 255} {
			if got, ok := objmap.Unpack(append(slices.Clone(b), more)); ok || len(got) != 0 {
				t.Fatalf("Unpack of %v and %d = %s, %v", b, more, short(got), ok)
			}
		}
	}
}

// P5.5: Unpack is the inverse of Pack: of the maps that Check accepts, it
// returns each, and no two of them have the same bytes.
func TestInverse(t *testing.T) {
	of := map[string][]int{}
	for _, m := range all(6, 0, 1, 2) {
		if !objmap.Check(m) {
			continue
		}
		b := objmap.Pack(m)
		if other, is := of[string(b)]; is {
			t.Fatalf("%v and %v have the same bytes", m, other)
		}
		of[string(b)] = m
		got, ok := objmap.Unpack(b)
		if !ok || !objmap.Check(got) {
			t.Fatalf("Unpack(%v) = %v, %v", b, got, ok)
		}
		same(t, got, m, "Unpack(Pack(%v))", m)
		if again := objmap.Pack(got); !bytes.Equal(again, b) {
			t.Fatalf("Pack(Unpack(%v)) = %v", b, again)
		}
	}
	if len(of) != 729 { // each map of six states, without its end
		t.Errorf("%d maps", len(of))
	}
}

// P5.5: Merge changes nothing where older has no Dirty object; what changed
// from one map to a second one and from there to a third one is what changed
// between the first one and the third one.
func TestConsequences(t *testing.T) {
	check := func(a, b, c []int) {
		merged := objmap.Merge(a, b)
		for i := range most {
			if got, want := objmap.Get(merged, i), objmap.Get(b, i); objmap.Get(a, i) != api.Dirty && got != want {
				t.Fatalf("Merge(%s, %s) has %d of object %d", short(a), short(b), got, i)
			}
		}
		both := append(objmap.Changed(a, [][]int{b}), objmap.Changed(b, [][]int{c})...)
		slices.Sort(both)
		same(t, objmap.Changed(a, [][]int{b, c}), slices.Compact(both), "Changed(%v, %v and %v)", a, b, c)
	}
	maps := all(2, 0, 1, 2, 3)
	for _, a := range maps {
		for _, b := range maps {
			for _, c := range maps {
				check(a, b, c)
			}
		}
	}
	r := random(6)
	for range 500 {
		check(r.elements(r.below(600)), r.elements(r.below(600)), r.elements(r.below(600)))
	}
}

// spare returns m with spare capacity, and a function that reports whether m
// and the spare capacity are as they were.
func spare[T int | byte](m []T) ([]T, func() bool) {
	full := append(slices.Clone(m), 7, 1, 2, 0, 9)
	before := slices.Clone(full)
	return full[:len(m)], func() bool { return slices.Equal(full, before) }
}

// spoil changes a result, what is appended to it, and its spare capacity.
func spoil[T int | byte](out []T) {
	out = append(out, 5, 5, 5)
	out = out[:cap(out)]
	for i := range out {
		out[i] = 99
	}
}

// P5.1 to P5.4: the maps and bytes that are handed in stay as they were, with
// their spare capacity, also when what was returned is changed and appended to.
func TestArgumentsStay(t *testing.T) {
	r := random(7)
	maps := append(all(2, 0, 1, 2, 3), []int{1, 2, 0, 0, 1}, []int{2, 9, 1, 0, 0}, r.states(511, 0), r.states(512, 0), r.elements(513), r.elements(600))
	for _, a := range maps {
		for _, b := range maps {
			m, sameM := spare(a)
			n, sameN := spare(b)
			p, sameP := spare(wholePack(a))
			rest := [][]int{n, m, nil, n, {1, 2}}[:3]
			check := func(call string) {
				t.Helper()
				for i, l := range [][]int{b, a, nil, b, {1, 2}} {
					if !slices.Equal(rest[:5][i], l) {
						t.Fatalf("%s changed map %d of rest", call, i)
					}
				}
				if len(rest) != 3 || !sameM() || !sameN() || !sameP() {
					t.Fatalf("%s changed what it was given: %s, %s", call, short(a), short(b))
				}
			}
			objmap.Check(m)
			objmap.Get(m, 1)
			check("Check or Get")
			for _, i := range []int{-1, 0, len(m) - 1, len(m), len(m) + 1, 511, 512} {
				for _, state := range []int{0, 1, 2, 3} {
					spoil(objmap.Set(m, i, state))
					check("Set")
				}
			}
			spoil(objmap.Fresh(m))
			check("Fresh")
			spoil(objmap.Merge(m, n))
			check("Merge")
			spoil(objmap.Changed(m, rest))
			check("Changed")
			spoil(objmap.Pack(m))
			check("Pack")
			got, ok := objmap.Unpack(p)
			if !ok {
				t.Fatalf("Unpack(%v) fails", p)
			}
			spoil(got)
			check("Unpack")
		}
	}
}

// P5.1 to P5.4: one map as both arguments, or several times in rest.
func TestOneMapTwice(t *testing.T) {
	m := []int{1, 0, 2, 3, 1, 0}
	same(t, objmap.Merge(m, m), []int{1, 0, 2, 0, 1}, "Merge")
	same(t, objmap.Changed(m, [][]int{m, m}), []int{0, 4}, "Changed")
	same(t, m, []int{1, 0, 2, 3, 1, 0}, "m")
}

// P5.1 to P5.4: the results of two calls share no memory.
func TestResultsAreNew(t *testing.T) {
	m := []int{1, 0, 2}
	b := objmap.Pack(m)
	for range 2 {
		for _, want := range []struct{ got, want []int }{
			{objmap.Set(m, 3, 9), []int{1, 0, 2}},
			{objmap.Set(m, 0, 2), []int{2, 0, 2}},
			{objmap.Fresh(m), []int{2, 0, 2}},
			{objmap.Merge(m, m), []int{1, 0, 2}},
			{objmap.Changed(m, [][]int{nil, {1, 2}}), []int{0, 1, 2}},
		} {
			same(t, want.got, want.want, "a result")
			spoil(want.got)
		}
		got, _ := objmap.Unpack(b)
		same(t, got, m, "Unpack")
		spoil(got)
		again := objmap.Pack(m)
		if !bytes.Equal(again, []byte{0, 3, 33}) {
			t.Fatalf("Pack = %v", again)
		}
		spoil(again)
	}
}

// P5.3: many maps, and maps of many elements beyond the first 512.
func TestMany(t *testing.T) {
	rest := make([][]int, 20000)
	for i := range rest {
		rest[i] = []int{2}
	}
	rest[777] = append(make([]int, 511), 2)
	rest[777][0] = 2
	same(t, objmap.Changed([]int{2}, rest), []int{511}, "Changed of many maps")
	long := slices.Repeat([]int{1}, 1<<20)
	same(t, objmap.Fresh(long), slices.Repeat([]int{2}, most), "Fresh of many elements")
	same(t, objmap.Changed(long, [][]int{long[:5]}), wholeChanged(long, [][]int{long[:5]}), "Changed of many elements")
	if b := objmap.Pack(long); len(b) != 2+most/4 || b[0] != 2 || b[1] != 0 {
		t.Errorf("Pack of many elements has %d bytes", len(b))
	}
}
