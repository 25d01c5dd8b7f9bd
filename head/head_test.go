package head_test

import (
	"bytes"
	"fmt"
	"math"
	"slices"
	"testing"

	"terrazzo/api"
	"terrazzo/head"
	"terrazzo/objmap"
	"terrazzo/stripe"
)

// layout is the layout of the examples; an image of 10 bytes has three objects.
var layout = api.Layout{Unit: 2, Count: 3, Object: 4}

// single is the layout in which each byte is stored in an object of its own.
var single = api.Layout{Unit: 1, Count: 1, Object: 1}

// sample is a header that is valid, with two snapshots.
func sample() api.Head {
	return api.Head{
		Layout: layout,
		Size:   10,
		Map:    []int{2, 0, 1},
		Snaps:  []api.Snap{{Id: 2, Size: 9, Map: []int{0, 1}}, {Id: 5, Size: 13, Map: []int{1, 2, 0, 1}}},
		Last:   7,
		Seq:    1<<32 + 3,
	}
}

// full is a header of which nothing can be greater.
func full() api.Head {
	h := api.Head{Layout: single, Size: 512, Map: slices.Repeat([]int{2}, 512), Last: 100, Seq: 1 << 40}
	for id := 97; id <= 100; id++ {
		h.Snaps = append(h.Snaps, api.Snap{Id: id, Size: 512, Map: slices.Repeat([]int{1}, 512)})
	}
	return h
}

// withSnaps is the sample with snapshots of these numbers.
func withSnaps(last int, ids ...int) api.Head {
	h := sample()
	h.Last, h.Snaps = last, nil
	for i, id := range ids {
		h.Snaps = append(h.Snaps, api.Snap{Id: id, Size: 10, Map: []int{1, i % 2, 2}})
	}
	return h
}

// cloned is h in new memory.
func cloned(h api.Head) api.Head {
	h.Map = slices.Clone(h.Map)
	snaps := h.Snaps
	h.Snaps = nil
	for _, s := range snaps {
		h.Snaps = append(h.Snaps, api.Snap{Id: s.Id, Size: s.Size, Map: slices.Clone(s.Map)})
	}
	return h
}

func sameHead(a, b api.Head) bool {
	sameSnap := func(s, t api.Snap) bool {
		return s.Id == t.Id && s.Size == t.Size && slices.Equal(s.Map, t.Map)
	}
	return a.Layout == b.Layout && a.Size == b.Size && a.Last == b.Last && a.Seq == b.Seq &&
		slices.Equal(a.Map, b.Map) && slices.EqualFunc(a.Snaps, b.Snaps, sameSnap)
}

// random yields numbers that are the same in every run.
type random uint64

func (r *random) below(n int) int {
	*r = *r*6364136223846793005 + 1442695040888963407
	return int(uint64(*r) >> 33 % uint64(n))
}

// one is one of these numbers.
func (r *random) one(of ...int) int { return of[r.below(len(of))] }

// states is a canonical map of at most so many states.
func (r *random) states(most int) []int {
	m := make([]int, r.below(most+1))
	for i := range m {
		m[i] = r.below(3)
	}
	if len(m) > 0 && m[len(m)-1] == 0 {
		m[len(m)-1] = 1 + r.below(2)
	}
	return m
}

// layout is a layout that is valid.
func (r *random) layout() api.Layout {
	unit := r.one(1, 2, 3, 8, 31, 32, 64)
	return api.Layout{Unit: unit, Count: 1 + r.below(8), Object: unit * (1 + r.below(64/unit))}
}

// image is a size and a map that this layout allows.
func (r *random) image(l api.Layout) (int, []int) {
	size := r.one(0, 1, 2, 10, 100, 255, 256, 257, 511, 512)
	return size, r.states(objects(l, size))
}

// head is a header that is valid.
func (r *random) head() api.Head {
	h := api.Head{Layout: r.layout(), Seq: r.one(0, 1, 255, 256, 1<<32, 1<<40-1, 1<<40)}
	h.Size, h.Map = r.image(h.Layout)
	for range r.below(5) {
		size, m := r.image(h.Layout)
		h.Last += 1 + r.one(0, 0, 0, 1, 20)
		h.Snaps = append(h.Snaps, api.Snap{Id: h.Last, Size: size, Map: m})
	}
	h.Last = r.one(h.Last, h.Last, h.Last+1, 100)
	return h
}

// objects is the number of objects of an image, byte by byte.
func objects(l api.Layout, size int) int {
	n := 0
	for off := range size {
		object, _ := stripe.Place(l, off)
		n = max(n, object+1)
	}
	return n
}

// validImage and valid follow the words of the chapter.
func validImage(l api.Layout, size int, m []int) bool {
	return size >= 0 && size <= 512 && objmap.Check(m) && len(m) <= objects(l, size)
}

func valid(h api.Head) bool {
	if stripe.Check(h.Layout) != api.OK || !validImage(h.Layout, h.Size, h.Map) {
		return false
	}
	if len(h.Snaps) > 4 || h.Last < 0 || h.Last > 100 || h.Seq < 0 || h.Seq > 1<<40 {
		return false
	}
	for i, s := range h.Snaps {
		if s.Id < 1 || i > 0 && s.Id <= h.Snaps[i-1].Id || !validImage(h.Layout, s.Size, s.Map) {
			return false
		}
	}
	return len(h.Snaps) == 0 || h.Snaps[len(h.Snaps)-1].Id <= h.Last
}

// packed is the encoding of h, valid or not, each field by hand.
func packed(h api.Head) []byte {
	var b []byte
	blob := func(m []int) {
		p := objmap.Pack(m)
		b = append(append(b, byte(len(p)>>8), byte(len(p))), p...)
	}
	b = append(b, byte(h.Layout.Unit), byte(h.Layout.Count), byte(h.Layout.Object), byte(h.Last))
	b = append(b, byte(h.Size>>8), byte(h.Size))
	for shift := 40; shift >= 0; shift -= 8 {
		b = append(b, byte(h.Seq>>shift))
	}
	blob(h.Map)
	b = append(b, byte(len(h.Snaps)))
	for _, s := range h.Snaps {
		b = append(b, byte(s.Id), byte(s.Size>>8), byte(s.Size))
		blob(s.Map)
	}
	return b
}

// fields reads an encoding by the words of the chapter.
type fields struct {
	b []byte
	e api.Errno
}

func (f *fields) num(width int) int {
	n := 0
	for _, d := range f.take(width) {
		n = n*256 + int(d)
	}
	return n
}

func (f *fields) take(n int) []byte {
	if f.e == api.OK && len(f.b) < n {
		f.e = api.ErrShort
	}
	if f.e != api.OK {
		return nil
	}
	x := f.b[:n]
	f.b = f.b[n:]
	return x
}

func (f *fields) states() []int {
	n := f.num(2)
	if f.e == api.OK && n > 200 {
		f.e = api.ErrForm
	}
	m, ok := objmap.Unpack(f.take(n))
	if f.e == api.OK && !ok {
		f.e = api.ErrForm
	}
	return m
}

func unpacked(b []byte) (api.Head, api.Errno) {
	f := &fields{b: b}
	h := api.Head{Layout: api.Layout{Unit: f.num(1), Count: f.num(1), Object: f.num(1)}, Last: f.num(1), Size: f.num(2), Seq: f.num(6), Map: f.states()}
	n := f.num(1)
	if f.e == api.OK && n > 4 {
		f.e = api.ErrForm
	}
	for range min(n, 4) {
		h.Snaps = append(h.Snaps, api.Snap{Id: f.num(1), Size: f.num(2), Map: f.states()})
	}
	if f.e == api.OK && len(f.b) > 0 {
		f.e = api.ErrForm
	}
	if f.e == api.OK && !valid(h) {
		f.e = api.ErrHead
	}
	if f.e != api.OK {
		return api.Head{}, f.e
	}
	return h, api.OK
}

// wrongHead is a header that is not valid.
type wrongHead struct {
	what string
	h    api.Head
}

// wrongParts are the sample with one part that may not be.
func wrongParts() []wrongHead {
	var l []wrongHead
	add := func(what string, change func(h *api.Head)) {
		h := sample()
		change(&h)
		l = append(l, wrongHead{what, h})
	}
	for _, x := range wrongLayouts() {
		add(fmt.Sprint("layout ", x), func(h *api.Head) { *h = api.Head{Layout: x} })
		add(fmt.Sprint("layout ", x), func(h *api.Head) { h.Layout = x })
	}
	for _, n := range []int{-1, 513, 1 << 16, 1<<16 + 10, 1 << 32, math.MinInt, math.MaxInt} {
		add(fmt.Sprint("Size ", n), func(h *api.Head) { h.Size = n })
		add(fmt.Sprint("Size ", n, " and no map"), func(h *api.Head) { h.Size, h.Map = n, nil })
		add(fmt.Sprint("Size of the first snapshot ", n), func(h *api.Head) { h.Snaps[0].Size = n })
		add(fmt.Sprint("Size of the last snapshot ", n), func(h *api.Head) { h.Snaps[1] = api.Snap{Id: 5, Size: n} })
	}
	for _, m := range [][]int{{0}, {1, 0}, {3}, {1, -1, 1}, {257}, {1, 1, 1, 1}, {2, 0, 0, 0, 1}, slices.Repeat([]int{1}, 513)} {
		add(fmt.Sprint("Map ", m), func(h *api.Head) { h.Map = m })
		add(fmt.Sprint("map of the first snapshot ", m), func(h *api.Head) { h.Snaps[0].Map = m })
		add(fmt.Sprint("map of the last snapshot ", m), func(h *api.Head) { h.Snaps[1] = api.Snap{Id: 5, Size: 10, Map: m} })
	}
	add("Map of 513 states", func(h *api.Head) {
		*h = api.Head{Layout: single, Size: 512, Map: slices.Repeat([]int{1}, 513)}
	})
	for _, n := range []int{-1, 101, 256 + 7, math.MinInt, math.MaxInt} {
		add(fmt.Sprint("Last ", n), func(h *api.Head) { h.Last = n })
		add(fmt.Sprint("Last without snapshots ", n), func(h *api.Head) { h.Last, h.Snaps = n, nil })
	}
	for _, n := range []int{-1, 1<<40 + 1, 1 << 41, 1<<48 + 3, math.MinInt, math.MaxInt} {
		add(fmt.Sprint("Seq ", n), func(h *api.Head) { h.Seq = n })
	}
	return l
}

// wrongSnaps are the sample with snapshots that may not be.
func wrongSnaps() []wrongHead {
	var l []wrongHead
	for _, c := range []struct {
		last int
		ids  []int
	}{
		{9, []int{1, 2, 3, 4, 5}},
		{100, []int{1, 2, 3, 4, 5, 6, 7, 8, 9}},
		{9, []int{0}},
		{0, []int{0}},
		{9, []int{-1}},
		{9, []int{math.MinInt}},
		{9, []int{0, 1}},
		{9, []int{-1, 1, 2, 3}},
		{9, []int{1, 0}},
		{9, []int{1, 1}},
		{9, []int{2, 1}},
		{9, []int{1, 3, 3}},
		{9, []int{1, 3, 2}},
		{9, []int{1, 3, 2, 4}},
		{9, []int{1, 2, 4, 4}},
		{9, []int{1, 2, 4, 3}},
		{9, []int{10}},
		{9, []int{1, 10}},
		{9, []int{1, 2, 3, 10}},
		{9, []int{10, 9}},
		{0, []int{1}},
		{-1, []int{1}},
		{100, []int{101}},
		{101, []int{101}},
		{100, []int{1, math.MaxInt}},
	} {
		l = append(l, wrongHead{fmt.Sprint("Last ", c.last, ", snapshots ", c.ids), withSnaps(c.last, c.ids...)})
	}
	return l
}

func wrongLayouts() []api.Layout {
	return []api.Layout{
		{}, {Unit: 0, Count: 3, Object: 4}, {Unit: -2, Count: 3, Object: 4}, {Unit: 2, Count: 0, Object: 4}, {Unit: 2, Count: -1, Object: 4},
		{Unit: 2, Count: 9, Object: 4}, {Unit: 4, Count: 3, Object: 2}, {Unit: 2, Count: 3, Object: 0}, {Unit: 2, Count: 3, Object: 5},
		{Unit: 2, Count: 3, Object: 66}, {Unit: 65, Count: 1, Object: 65}, {Unit: 2, Count: 3, Object: -4}, {Unit: 2, Count: 3 + 256, Object: 4},
		{Unit: math.MinInt, Count: math.MinInt, Object: math.MinInt}, {Unit: math.MaxInt, Count: math.MaxInt, Object: math.MaxInt},
	}
}

// wrongHeads are headers that are not valid, for each reason.
func wrongHeads() []wrongHead { return append(wrongParts(), wrongSnaps()...) }

// rightHeads are headers that are valid, about the edges.
func rightHeads() []api.Head {
	l := []api.Head{
		sample(), full(),
		{Layout: single},
		{Layout: layout},
		{Layout: layout, Size: 512, Map: slices.Repeat([]int{1}, 129)},
		{Layout: single, Size: 1, Map: []int{2}},
		{Layout: single, Size: 512, Map: append(make([]int, 511), 1)},
		{Layout: api.Layout{Unit: 64, Count: 8, Object: 64}, Size: 512, Map: []int{0, 0, 0, 0, 0, 0, 0, 1}},
		{Layout: layout, Last: 100},
		{Layout: layout, Last: 99, Seq: 1},
		{Layout: layout, Seq: 1 << 40},
		{Layout: layout, Seq: 1<<40 - 1},
		withSnaps(1, 1), withSnaps(100, 1), withSnaps(100, 100), withSnaps(9, 1, 9), withSnaps(2, 1, 2),
		withSnaps(4, 1, 2, 3, 4), withSnaps(100, 1, 50, 99, 100), withSnaps(0), withSnaps(7), withSnaps(100),
	}
	h := withSnaps(3, 1, 2, 3)
	h.Snaps[0] = api.Snap{Id: 1}
	h.Snaps[1] = api.Snap{Id: 2, Size: 512, Map: slices.Repeat([]int{2}, 129)}
	return append(l, h)
}

// P6.1: New, also of what may not be.
func TestNew(t *testing.T) {
	for _, l := range []api.Layout{layout, single, {Unit: 64, Count: 8, Object: 64}, {Unit: 1, Count: 8, Object: 64}} {
		for _, size := range []int{0, 1, 10, 511, 512} {
			h, e := head.New(l, size)
			if e != api.OK || !sameHead(h, api.Head{Layout: l, Size: size}) || head.Check(h) != api.OK {
				t.Errorf("New(%v, %d) = %v, %v", l, size, h, e)
			}
		}
		for _, size := range []int{-1, 513, 1 << 16, math.MinInt, math.MaxInt} {
			if h, e := head.New(l, size); e != api.ErrArg || !sameHead(h, api.Head{}) {
				t.Errorf("New(%v, %d) = %v, %v", l, size, h, e)
			}
		}
	}
	for _, l := range wrongLayouts() {
		for _, size := range []int{-1, 0, 10, 512, 513} {
			if h, e := head.New(l, size); e != api.ErrArg || !sameHead(h, api.Head{}) {
				t.Errorf("New(%v, %d) = %v, %v", l, size, h, e)
			}
		}
	}
}

// P6.1: Check, of headers that are valid and of those that are not.
func TestCheck(t *testing.T) {
	for _, h := range rightHeads() {
		if e := head.Check(h); e != api.OK {
			t.Errorf("Check(%v) = %v", h, e)
		}
	}
	for _, w := range wrongHeads() {
		if e := head.Check(w.h); e != api.ErrHead {
			t.Errorf("%s: Check = %v", w.what, e)
		}
	}
}

// P6.1: the most states of a map, for each size.
func TestCheckStates(t *testing.T) {
	r := random(1)
	for size := range 513 {
		l := r.layout()
		n := objects(l, size)
		m := slices.Repeat([]int{1}, n+1)
		current := func(m []int) api.Head { return api.Head{Layout: l, Size: size, Map: m} }
		snapshot := func(m []int) api.Head {
			return api.Head{Layout: l, Last: 1, Snaps: []api.Snap{{Id: 1, Size: size, Map: m}}}
		}
		for _, with := range []func([]int) api.Head{current, snapshot} {
			if head.Check(with(m[:n])) != api.OK || head.Check(with(m)) != api.ErrHead {
				t.Fatalf("Check allows a map of an image of layout %v and %d bytes other than %d states", l, size, n)
			}
		}
	}
}

// P6.1: Check of random headers with a change, against its model.
func TestCheckChanged(t *testing.T) {
	r := random(2)
	count := [2]int{}
	for range 20000 {
		h := r.head()
		for range r.below(3) {
			r.spoilField(&h)
		}
		want := api.ErrHead
		if valid(h) {
			want = api.OK
			count[1]++
		}
		count[0]++
		if got := head.Check(h); got != want {
			t.Fatalf("Check(%v) = %v, want %v", h, got, want)
		}
	}
	if count[1] < count[0]/4 || count[1] > count[0]*3/4 {
		t.Errorf("%d of %d headers are valid", count[1], count[0])
	}
}

// spoilField changes a field of h to what may be or may not be.
func (r *random) spoilField(h *api.Head) {
	number := r.one(-1, 0, 1, 2, 4, 64, 100, 101, 256, 512, 513, 1<<40, 1<<40+1)
	of := []*int{&h.Layout.Unit, &h.Layout.Count, &h.Layout.Object, &h.Size, &h.Last, &h.Seq}
	maps := []*[]int{&h.Map}
	for i := range h.Snaps {
		of = append(of, &h.Snaps[i].Id, &h.Snaps[i].Size)
		maps = append(maps, &h.Snaps[i].Map)
	}
	switch r.below(3) {
	case 0:
		*of[r.below(len(of))] = number
	case 1:
		m := maps[r.below(len(maps))]
		*m = append(slices.Clone(*m), r.one(0, 1, 2, 3, -1))
	case 2:
		h.Snaps = append(h.Snaps, api.Snap{Id: h.Last + r.below(3), Size: r.one(0, 10, 512, 513)})
		h.Last += r.below(3)
	}
}

// P6.2: Pack, by hand.
func TestPackByHand(t *testing.T) {
	for _, c := range []struct {
		h    api.Head
		want []byte
	}{
		{api.Head{Layout: single}, []byte{1, 1, 1, 0, 0, 0, 0, 0, 0, 0, 0, 0, 0, 2, 0, 0, 0}},
		{api.Head{Layout: layout, Size: 10, Map: []int{1}, Snaps: []api.Snap{{Id: 2, Size: 9, Map: []int{0, 1}}}, Last: 3, Seq: 7},
			[]byte{2, 3, 4, 3, 0, 10, 0, 0, 0, 0, 0, 7, 0, 3, 0, 1, 1, 1, 2, 0, 9, 0, 3, 0, 2, 4}},
		{api.Head{Layout: api.Layout{Unit: 32, Count: 8, Object: 64}, Size: 512, Map: []int{0, 0, 0, 0, 2}, Last: 100, Seq: 1 << 40},
			[]byte{32, 8, 64, 100, 2, 0, 1, 0, 0, 0, 0, 0, 0, 4, 0, 5, 0, 2, 0}},
		{api.Head{Layout: layout, Size: 0x101, Seq: 0x0405060708, Last: 9, Snaps: []api.Snap{{Id: 4}, {Id: 9, Size: 0x102, Map: []int{2, 1, 0, 2, 1}}}},
			[]byte{2, 3, 4, 9, 1, 1, 0, 4, 5, 6, 7, 8, 0, 2, 0, 0, 2, 4, 0, 0, 0, 2, 0, 0, 9, 1, 2, 0, 4, 0, 5, 134, 1}},
	} {
		if got := head.Pack(c.h); !bytes.Equal(got, c.want) {
			t.Errorf("Pack(%v) = %v, want %v", c.h, got, c.want)
		}
		if got, e := head.Unpack(c.want); e != api.OK || !sameHead(got, c.h) {
			t.Errorf("Unpack(%v) = %v, %v", c.want, got, e)
		}
	}
}

// P6.2, P6.5: Pack of headers against its model, and Unpack as its inverse.
func TestPack(t *testing.T) {
	r := random(3)
	heads := rightHeads()
	for range 3000 {
		heads = append(heads, r.head())
	}
	for _, h := range heads {
		b := head.Pack(h)
		if !bytes.Equal(b, packed(h)) {
			t.Fatalf("Pack(%v) = %v, want %v", h, b, packed(h))
		}
		if got, e := head.Unpack(b); e != api.OK || !sameHead(got, h) {
			t.Fatalf("Unpack(Pack(%v)) = %v, %v", h, got, e)
		}
	}
	for _, w := range wrongHeads() {
		if b := head.Pack(w.h); len(b) != 0 {
			t.Errorf("%s: Pack = %v", w.what, b)
		}
	}
}

// unpackFails fails the test unless Unpack returns this error and no header.
func unpackFails(t *testing.T, what string, b []byte, want api.Errno) {
	t.Helper()
	if h, e := head.Unpack(b); e != want || !sameHead(h, api.Head{}) {
		t.Errorf("%s: Unpack(%v) = %v, %v, want error %v", what, b, h, e, want)
	}
}

// P6.2: bytes that end too early, or go on.
func TestUnpackLength(t *testing.T) {
	for _, h := range []api.Head{sample(), full(), {Layout: layout}, withSnaps(4, 1, 2, 3, 4)} {
		b := head.Pack(h)
		for n := range b {
			unpackFails(t, "too short", b[:n:n], api.ErrShort)
			unpackFails(t, "too short", b[:n], api.ErrShort)
		}
		for n := 1; n < 10; n++ {
			unpackFails(t, "too long", append(slices.Clone(b), make([]byte, n)...), api.ErrForm)
		}
		unpackFails(t, "twice", slices.Concat(b, b), api.ErrForm)
	}
	unpackFails(t, "no bytes", nil, api.ErrShort)
	unpackFails(t, "many bytes", append(head.Pack(sample()), make([]byte, 1<<20)...), api.ErrForm)
}

// P6.2: headers that are not valid, of those that can be encoded.
func TestUnpackHeads(t *testing.T) {
	for _, w := range []struct {
		what   string
		change func(h *api.Head)
	}{
		{"Unit 0", func(h *api.Head) { h.Layout.Unit = 0 }},
		{"Unit 3", func(h *api.Head) { h.Layout.Unit = 3 }},
		{"Count 0", func(h *api.Head) { h.Layout.Count = 0 }},
		{"Count 9", func(h *api.Head) { h.Layout.Count = 9 }},
		{"Object 5", func(h *api.Head) { h.Layout.Object = 5 }},
		{"Object 255", func(h *api.Head) { h.Layout.Object = 255 }},
		{"Last 4", func(h *api.Head) { h.Last = 4 }},
		{"Last 101", func(h *api.Head) { h.Last = 101 }},
		{"Last 255", func(h *api.Head) { h.Last = 255 }},
		{"Size 513", func(h *api.Head) { h.Size = 513 }},
		{"Size 65535", func(h *api.Head) { h.Size, h.Map = 65535, nil }},
		{"Seq 2^40 + 1", func(h *api.Head) { h.Seq = 1<<40 + 1 }},
		{"Seq 2^48 - 1", func(h *api.Head) { h.Seq = 1<<48 - 1 }},
		{"a state too many", func(h *api.Head) { h.Map = []int{1, 1, 1, 1} }},
		{"512 states", func(h *api.Head) { h.Map = slices.Repeat([]int{1}, 512) }},
		{"a number 0", func(h *api.Head) { h.Snaps[0].Id = 0 }},
		{"a number above Last", func(h *api.Head) { h.Snaps[1].Id = 8 }},
		{"numbers that do not increase", func(h *api.Head) { h.Snaps[0].Id = 5 }},
		{"Size 513 of a snapshot", func(h *api.Head) { h.Snaps[0].Size = 513 }},
		{"a state too many of a snapshot", func(h *api.Head) { h.Snaps[0].Map = []int{1, 1, 1, 1} }},
		{"a snapshot of 0 bytes with a state", func(h *api.Head) { h.Snaps[1].Size = 0 }},
	} {
		h := sample()
		w.change(&h)
		b := packed(h)
		unpackFails(t, w.what, b, api.ErrHead)
		unpackFails(t, w.what+", too long", append(b, 0), api.ErrForm)
		unpackFails(t, w.what+", too short", b[:len(b)-1], api.ErrShort)
	}
}

// before are the fields ahead of the map, and none the blob of an empty map.
var (
	before = []byte{2, 3, 4, 7, 0, 10, 0, 0, 0, 0, 0, 3}
	none   = []byte{0, 2, 0, 0}
)

// sized is a blob of so many bytes, of which only some are there.
func sized(n, there int) []byte {
	return append([]byte{byte(n >> 8), byte(n)}, make([]byte, there)...)
}

// P6.2: blobs that are too long or no map, in the header and in snapshots; the
// first error is returned whatever comes after it.
func TestUnpackBlobs(t *testing.T) {
	places := map[string][]byte{
		"header":         before,
		"first snapshot": slices.Concat(before, none, []byte{2, 1, 0, 9}),
		"last snapshot":  slices.Concat(before, none, []byte{2, 1, 0, 9}, none, []byte{2, 0, 9}),
	}
	ends := map[string][]byte{"end": nil, "number": {0}, "empty maps": slices.Concat(none, none, none), "much": make([]byte, 2000)}
	for place, front := range places {
		for end, back := range ends {
			for what, blob := range map[string][]byte{
				"no bytes":           {0, 0},
				"one byte":           {0, 1, 0},
				"a state missing":    {0, 2, 0, 1},
				"None at the end":    {0, 3, 0, 2, 1},
				"no state":           {0, 3, 0, 1, 3},
				"an unused bit":      {0, 3, 0, 1, 5},
				"a byte too many":    {0, 4, 0, 1, 1, 0},
				"513 states":         append([]byte{0, 131, 2, 1}, slices.Repeat([]byte{0x55}, 129)...),
				"200 bytes":          sized(200, 200),
				"201 bytes":          sized(201, 201),
				"201 bytes, no one":  sized(201, 0),
				"256 bytes":          sized(256, 256),
				"258 bytes":          append([]byte{1, 2, 0, 0}, make([]byte, 256)...),
				"65535 bytes":        sized(65535, 65535),
				"65535 bytes, a few": sized(65535, 3),
			} {
				unpackFails(t, place+", "+what+", "+end, slices.Concat(front, blob, back), api.ErrForm)
			}
		}
		for what, blob := range map[string][]byte{"half a length": {0}, "no length": nil, "200 bytes, one missing": sized(200, 199), "200 bytes, no one": sized(200, 0), "a byte missing": {0, 3, 0, 1}} {
			unpackFails(t, place+", "+what, slices.Concat(front, blob), api.ErrShort)
		}
	}
}

// P6.2: more snapshots than there may be, whether they are there or not.
func TestUnpackSnaps(t *testing.T) {
	front := slices.Concat(before, none)
	for n := 5; n < 256; n++ {
		b := append(slices.Clone(front), byte(n))
		unpackFails(t, "missing snapshots", b, api.ErrForm)
		for i := range n {
			b = slices.Concat(b, []byte{byte(i + 1), 0, 9}, none)
		}
		unpackFails(t, "too many snapshots", b, api.ErrForm)
	}
	for n := range 4 {
		unpackFails(t, "missing snapshots", append(slices.Clone(front), byte(n+1)), api.ErrShort)
	}
	h, e := head.Unpack(append(slices.Clone(front), 0))
	if e != api.OK || !sameHead(h, api.Head{Layout: layout, Size: 10, Last: 7, Seq: 3}) {
		t.Errorf("Unpack = %v, %v", h, e)
	}
}

// P6.2, P6.5: encodings with one byte changed, left out or added, against the
// model; what is decoded has no other encoding.
func TestUnpackChanged(t *testing.T) {
	check := func(b []byte) {
		want, wantE := unpacked(b)
		h, e := head.Unpack(b)
		if e != wantE || !sameHead(h, want) {
			t.Fatalf("Unpack(%v) = %v, %v, want %v, %v", b, h, e, want, wantE)
		}
		if again := head.Pack(h); e == api.OK && !bytes.Equal(again, b) {
			t.Fatalf("Pack(Unpack(%v)) = %v", b, again)
		}
	}
	h := withSnaps(6, 1, 3, 4, 6)
	for _, b := range [][]byte{head.Pack(sample()), head.Pack(h), head.Pack(api.Head{Layout: single, Size: 1, Map: []int{1}})} {
		for i := range b {
			for x := range 256 {
				c := slices.Clone(b)
				c[i] = byte(x)
				check(c)
			}
			for x := range 4 {
				check(slices.Insert(slices.Clone(b), i, byte(x)))
			}
			check(slices.Delete(slices.Clone(b), i, i+1))
		}
	}
	r := random(4)
	for range 5000 {
		b := head.Pack(r.head())
		for range 1 + r.below(3) {
			b[r.below(len(b))] = byte(r.one(0, 1, 2, 3, 4, 5, 128, 255))
		}
		check(b)
	}
}

// P6.3: Find and Newest, also of headers that are not valid.
func TestFindAndNewest(t *testing.T) {
	for _, c := range []struct {
		ids           []int
		id, at, newer int
	}{
		{nil, 0, -1, 0},
		{nil, 1, -1, 0},
		{[]int{1}, 1, 0, 1},
		{[]int{1}, 0, -1, 1},
		{[]int{1}, -1, -1, 1},
		{[]int{1}, 2, -1, 1},
		{[]int{1, 3, 4, 7}, 1, 0, 7},
		{[]int{1, 3, 4, 7}, 3, 1, 7},
		{[]int{1, 3, 4, 7}, 4, 2, 7},
		{[]int{1, 3, 4, 7}, 7, 3, 7},
		{[]int{1, 3, 4, 7}, 2, -1, 7},
		{[]int{1, 3, 4, 7}, 8, -1, 7},
		{[]int{1, 3, 4, 7}, math.MaxInt, -1, 7},
		{[]int{1, 3, 4, 7}, math.MinInt, -1, 7},
		{[]int{2, 2, 3, 2, 3}, 2, 0, 3},
		{[]int{2, 2, 3, 2, 3}, 3, 2, 3},
		{[]int{5, 0, -3}, 0, 1, -3},
		{[]int{5, -3, 0}, -3, 1, 0},
		{[]int{1, 2, 3, 4, 5, 6, 7, 8}, 8, 7, 8},
		{[]int{9, math.MaxInt, math.MinInt}, math.MinInt, 2, math.MinInt},
	} {
		h := withSnaps(9, c.ids...)
		if at := head.Find(h, c.id); at != c.at {
			t.Errorf("Find of %d in %v = %d, want %d", c.id, c.ids, at, c.at)
		}
		if id := head.Newest(h); id != c.newer {
			t.Errorf("Newest of %v = %d, want %d", c.ids, id, c.newer)
		}
	}
	last := withSnaps(9, 1)
	last.Snaps = nil
	if head.Newest(last) != 0 || head.Newest(api.Head{}) != 0 || head.Find(api.Head{}, 0) != -1 {
		t.Error("a header without snapshots has a newest one")
	}
}

// P6.3, P6.4: a header that is not valid is refused ahead of all else.
func TestWrongHeads(t *testing.T) {
	for _, w := range wrongHeads() {
		if h, id, e := head.Snap(w.h); e != api.ErrHead || id != 0 || !sameHead(h, api.Head{}) {
			t.Errorf("%s: Snap = %v, %d, %v", w.what, h, id, e)
		}
		for _, id := range []int{-1, 0, 1, 2, 5, 101} {
			if h, e := head.Drop(w.h, id); e != api.ErrHead || !sameHead(h, api.Head{}) {
				t.Errorf("%s: Drop = %v, %v", w.what, h, e)
			}
			for _, to := range []int{-1, 0, 1, 2, 5} {
				if l, e := head.Diff(w.h, id, to); e != api.ErrHead || len(l) != 0 {
					t.Errorf("%s: Diff = %v, %v", w.what, l, e)
				}
			}
		}
	}
}

// P6.3: Snap, by hand.
func TestSnapByHand(t *testing.T) {
	h, id, e := head.Snap(api.Head{Layout: layout, Size: 10, Map: []int{1, 0, 2}, Seq: 6})
	if want := (api.Head{Layout: layout, Size: 10, Map: []int{2, 0, 2}, Snaps: []api.Snap{{Id: 1, Size: 10, Map: []int{1, 0, 2}}}, Last: 1, Seq: 6}); id != 1 || e != api.OK || !sameHead(h, want) {
		t.Errorf("Snap = %v, %d, %v", h, id, e)
	}
	h, id, e = head.Snap(sample())
	want := sample()
	want.Snaps = append(want.Snaps, api.Snap{Id: 8, Size: 10, Map: []int{2, 0, 1}})
	want.Last, want.Map = 8, []int{2, 0, 2}
	if id != 8 || e != api.OK || !sameHead(h, want) {
		t.Errorf("Snap = %v, %d, %v", h, id, e)
	}
}

// P6.3: no more than four snapshots, and none after the hundredth.
func TestSnapSpace(t *testing.T) {
	for _, c := range []struct {
		h  api.Head
		id int
		e  api.Errno
	}{
		{withSnaps(0), 1, api.OK},
		{withSnaps(98), 99, api.OK},
		{withSnaps(99), 100, api.OK},
		{withSnaps(100), 0, api.ErrSpace},
		{withSnaps(99, 1, 2, 99), 100, api.OK},
		{withSnaps(100, 1, 2, 99), 0, api.ErrSpace},
		{withSnaps(100, 100), 0, api.ErrSpace},
		{withSnaps(3, 1, 2, 3), 4, api.OK},
		{withSnaps(4, 1, 2, 3, 4), 0, api.ErrSpace},
		{withSnaps(9, 1, 2, 3, 4), 0, api.ErrSpace},
		{full(), 0, api.ErrSpace},
	} {
		h, id, e := head.Snap(c.h)
		if id != c.id || e != c.e {
			t.Errorf("Snap(%v) = %v, %d, %v", c.h, h, id, e)
		}
		if e == api.OK && head.Check(h) != api.OK || e != api.OK && !sameHead(h, api.Head{}) {
			t.Errorf("Snap(%v) = %v, %v", c.h, h, e)
		}
	}
}

// P6.3: all the snapshots that an image can ever have, dropped one by one.
func TestSnapHundred(t *testing.T) {
	h, _ := head.New(layout, 10)
	for want := 1; want <= 100; want++ {
		var id int
		var e api.Errno
		h, id, e = head.Snap(h)
		if id != want || e != api.OK || head.Newest(h) != want || h.Last != want {
			t.Fatalf("Snap number %d = %d, %v", want, id, e)
		}
		if len(h.Snaps) == 4 {
			h, e = head.Drop(h, h.Snaps[want%4].Id)
		}
		if e != api.OK || h.Last != want || len(h.Snaps) > 3 {
			t.Fatalf("Drop after %d: %v, %v", want, h, e)
		}
	}
	for len(h.Snaps) > 0 {
		if _, _, e := head.Snap(h); e != api.ErrSpace {
			t.Fatal(e)
		}
		h, _ = head.Drop(h, head.Newest(h))
	}
	if _, _, e := head.Snap(h); e != api.ErrSpace || head.Newest(h) != 0 || h.Last != 100 {
		t.Fatal(e, h)
	}
}

// P6.3, P6.5: Snap of random headers; the snapshot does not differ from the
// current image.
func TestSnap(t *testing.T) {
	r := random(5)
	for range 3000 {
		h := r.head()
		got, id, e := head.Snap(h)
		if len(h.Snaps) == 4 || h.Last == 100 {
			if e != api.ErrSpace || id != 0 || !sameHead(got, api.Head{}) {
				t.Fatalf("Snap(%v) = %v, %d, %v", h, got, id, e)
			}
			continue
		}
		want := cloned(h)
		want.Last = h.Last + 1
		want.Map = objmap.Fresh(h.Map)
		want.Snaps = append(want.Snaps, api.Snap{Id: h.Last + 1, Size: h.Size, Map: h.Map})
		if e != api.OK || id != h.Last+1 || !sameHead(got, want) || head.Check(got) != api.OK {
			t.Fatalf("Snap(%v) = %v, %d, %v", h, got, id, e)
		}
		if l, e := head.Diff(got, id, 0); e != api.OK || len(l) != 0 {
			t.Fatalf("Diff of the snapshot that was just made of %v = %v, %v", h, l, e)
		}
	}
}

// P6.3: Drop of the first, a middle and the last snapshot, by hand.
func TestDropByHand(t *testing.T) {
	h := api.Head{Layout: layout, Size: 12, Map: []int{2, 2, 1}, Last: 9, Seq: 4, Snaps: []api.Snap{
		{Id: 1, Size: 2, Map: []int{1}}, {Id: 4, Size: 12, Map: []int{2, 1, 1}}, {Id: 8, Size: 11, Map: []int{1, 2, 2}}}}
	for _, c := range []struct {
		id    int
		now   []int
		snaps []api.Snap
	}{
		{1, []int{2, 2, 1}, []api.Snap{{Id: 4, Size: 12, Map: []int{1, 1, 1}}, {Id: 8, Size: 11, Map: []int{1, 2, 2}}}},
		{4, []int{2, 2, 1}, []api.Snap{{Id: 1, Size: 2, Map: []int{1}}, {Id: 8, Size: 11, Map: []int{1, 1, 1}}}},
		{8, []int{1, 2, 1}, []api.Snap{{Id: 1, Size: 2, Map: []int{1}}, {Id: 4, Size: 12, Map: []int{2, 1, 1}}}},
	} {
		want := cloned(h)
		want.Map, want.Snaps = c.now, c.snaps
		if got, e := head.Drop(h, c.id); e != api.OK || !sameHead(got, want) {
			t.Errorf("Drop of %d = %v, %v, want %v", c.id, got, e, want)
		}
	}
	for _, id := range []int{math.MinInt, -1, 0, 2, 3, 5, 7, 9, 10, 100, math.MaxInt} {
		if got, e := head.Drop(h, id); e != api.ErrSnap || !sameHead(got, api.Head{}) {
			t.Errorf("Drop of %d = %v, %v", id, got, e)
		}
	}
	if got, e := head.Drop(withSnaps(3), 0); e != api.ErrSnap || !sameHead(got, api.Head{}) {
		t.Errorf("Drop without snapshots = %v, %v", got, e)
	}
	if got, e := head.Drop(withSnaps(3, 2), 2); e != api.OK || len(got.Snaps) != 0 || got.Last != 3 {
		t.Errorf("Drop of the only snapshot = %v, %v", got, e)
	}
}

// P6.3: Drop of each snapshot of random headers.
func TestDrop(t *testing.T) {
	r := random(6)
	for range 3000 {
		h := r.head()
		for i, s := range h.Snaps {
			want := cloned(h)
			if i+1 < len(h.Snaps) {
				want.Snaps[i+1].Map = objmap.Merge(s.Map, h.Snaps[i+1].Map)
			} else {
				want.Map = objmap.Merge(s.Map, h.Map)
			}
			want.Snaps = append(want.Snaps[:i:i], want.Snaps[i+1:]...)
			got, e := head.Drop(h, s.Id)
			if e != api.OK || !sameHead(got, want) || head.Check(got) != api.OK {
				t.Fatalf("Drop(%v, %d) = %v, %v, want %v", h, s.Id, got, e, want)
			}
		}
		for _, id := range []int{0, 101, h.Last + 1, -1 - r.below(100)} {
			if got, e := head.Drop(h, id); e != api.ErrSnap || !sameHead(got, api.Head{}) {
				t.Fatalf("Drop(%v, %d) = %v, %v", h, id, got, e)
			}
		}
	}
}

// P6.3, P6.4: the example of the chapter.
func TestExample(t *testing.T) {
	h, e := head.New(layout, 10)
	h.Map = objmap.Set(h.Map, 0, api.Dirty)
	h, id, e2 := head.Snap(h)
	if e != api.OK || e2 != api.OK || id != 1 || objmap.Get(h.Map, 0) != api.Clean {
		t.Fatal(h, id, e, e2)
	}
	h.Map = objmap.Set(h.Map, 1, api.Dirty)
	if l, e := head.Diff(h, 1, 0); e != api.OK || !slices.Equal(l, []int{1}) {
		t.Fatal(l, e)
	}
}

// P6.4: Diff, by hand.
func TestDiffByHand(t *testing.T) {
	h := api.Head{Layout: layout, Size: 12, Map: []int{2, 2, 1}, Last: 9, Snaps: []api.Snap{
		{Id: 1, Size: 12, Map: []int{1, 2}}, {Id: 4, Size: 12, Map: []int{2, 1, 1}}, {Id: 8, Size: 12, Map: []int{1, 2, 2}}}}
	for _, c := range []struct {
		from, to int
		want     []int
		e        api.Errno
	}{
		{1, 1, nil, api.OK},
		{4, 4, nil, api.OK},
		{8, 8, nil, api.OK},
		{1, 4, []int{1, 2}, api.OK},
		{1, 8, []int{0, 1, 2}, api.OK},
		{1, 0, []int{0, 1, 2}, api.OK},
		{4, 8, []int{0}, api.OK},
		{4, 0, []int{0, 2}, api.OK},
		{8, 0, []int{2}, api.OK},
		{4, 1, nil, api.ErrSnap},
		{8, 1, nil, api.ErrSnap},
		{8, 4, nil, api.ErrSnap},
		{0, 0, nil, api.ErrSnap},
		{0, 1, nil, api.ErrSnap},
		{0, 8, nil, api.ErrSnap},
		{2, 0, nil, api.ErrSnap},
		{2, 8, nil, api.ErrSnap},
		{2, 2, nil, api.ErrSnap},
		{1, 2, nil, api.ErrSnap},
		{1, 9, nil, api.ErrSnap},
		{1, -1, nil, api.ErrSnap},
		{8, 9, nil, api.ErrSnap},
		{9, 0, nil, api.ErrSnap},
		{-1, 0, nil, api.ErrSnap},
		{-1, -1, nil, api.ErrSnap},
		{-1, 8, nil, api.ErrSnap},
		{math.MinInt, math.MaxInt, nil, api.ErrSnap},
		{1, math.MinInt, nil, api.ErrSnap},
	} {
		if l, e := head.Diff(h, c.from, c.to); e != c.e || !slices.Equal(l, c.want) {
			t.Errorf("Diff from %d to %d = %v, %v", c.from, c.to, l, e)
		}
	}
	for _, to := range []int{-1, 0, 1} {
		if l, e := head.Diff(withSnaps(3), 0, to); e != api.ErrSnap || len(l) != 0 {
			t.Errorf("Diff without snapshots = %v, %v", l, e)
		}
	}
}

// mapOf is the map of a version of h.
func mapOf(h api.Head, version int) []int {
	if version == len(h.Snaps) {
		return h.Map
	}
	return h.Snaps[version].Map
}

// between are the objects that were changed between two versions by the words
// of the chapter; the current image is the version after the last snapshot.
func between(h api.Head, first, last int) []int {
	version := func(v, object int) int { return objmap.Get(mapOf(h, v), object) }
	var l []int
	for object := range 512 {
		is := false
		for v := first + 1; v <= last; v++ {
			s := version(v, object)
			is = is || s == api.Dirty || (s == api.None) != (version(first, object) == api.None)
		}
		if is {
			l = append(l, object)
		}
	}
	return l
}

// ids are the numbers of the snapshots, and 0 for the current image.
func ids(h api.Head) []int {
	var l []int
	for _, s := range h.Snaps {
		l = append(l, s.Id)
	}
	return append(l, 0)
}

// P6.4: Diff of all pairs of versions of random headers.
func TestDiff(t *testing.T) {
	r := random(7)
	for range 1000 {
		h := r.head()
		for first, from := range ids(h) {
			for last, to := range ids(h) {
				l, e := head.Diff(h, from, to)
				if from == 0 || last < first {
					if e != api.ErrSnap || len(l) != 0 {
						t.Fatalf("Diff(%v, %d, %d) = %v, %v", h, from, to, l, e)
					}
					continue
				}
				if e != api.OK || !slices.Equal(l, between(h, first, last)) {
					t.Fatalf("Diff(%v, %d, %d) = %v, %v, want %v", h, from, to, l, e, between(h, first, last))
				}
			}
		}
	}
}

// excepted reports whether the chapter allows that a Diff from a version to
// another one alters for this object when a version between them is dropped.
func excepted(h api.Head, first, at, last, object int) bool {
	begin := objmap.Get(mapOf(h, first), object) != api.None
	within := objmap.Get(mapOf(h, at), object) != api.None
	end := objmap.Get(mapOf(h, last), object)
	return !begin && end == api.None || begin && !within && end == api.Clean
}

// dropKeeps drops the snapshot at an index, and compares a Diff between others.
func dropKeeps(t *testing.T, h api.Head, first, at, last int) {
	t.Helper()
	all := ids(h)
	less, e := head.Drop(h, all[at])
	before, e2 := head.Diff(h, all[first], all[last])
	after, e3 := head.Diff(less, all[first], all[last])
	if e != api.OK || e2 != api.OK || e3 != api.OK {
		t.Fatal(h, e, e2, e3)
	}
	for object := range 512 {
		same := slices.Contains(before, object) == slices.Contains(after, object)
		if !same && (at < first || at > last || !excepted(h, first, at, last, object)) {
			t.Fatalf("Drop of %d alters the Diff of %v from %d to %d: object %d", all[at], h, all[first], all[last], object)
		}
	}
}

// P6.5: Drop alters a Diff between others only for the objects that the chapter
// excepts.
func TestDropKeepsDiffs(t *testing.T) {
	r := random(8)
	for range 1000 {
		h := r.head()
		for at := range h.Snaps {
			for first := range h.Snaps {
				for last := first; last <= len(h.Snaps); last++ {
					if first != at && last != at {
						dropKeeps(t, h, first, at, last)
					}
				}
			}
		}
	}
}

// story is an image of 8 objects: what each object holds, now and in each
// snapshot. What is written is never written again.
type story struct {
	h     api.Head
	now   [8]int
	at    map[int][8]int
	fresh int
}

// write changes an object, or removes it.
func (s *story) write(object int, there bool) {
	if !there {
		s.now[object], s.h.Map = 0, objmap.Set(s.h.Map, object, api.None)
		return
	}
	s.fresh++
	s.now[object], s.h.Map = s.fresh, objmap.Set(s.h.Map, object, api.Dirty)
}

// back makes the image what it was at a snapshot.
func (s *story) back(id int) {
	old := s.h.Snaps[head.Find(s.h, id)].Map
	for object := range 8 {
		if objmap.Get(old, object) != api.None {
			s.h.Map = objmap.Set(s.h.Map, object, api.Dirty)
		} else {
			s.h.Map = objmap.Set(s.h.Map, object, api.None)
		}
	}
	s.now = s.at[id]
}

// act does one thing to the image.
func (s *story) act(r *random) {
	all := ids(s.h)
	id := all[r.below(len(all))]
	switch what := r.below(10); {
	case what < 6:
		s.write(r.below(8), r.below(3) > 0)
	case what < 8:
		if h, id, e := head.Snap(s.h); e == api.OK {
			s.h, s.at[id] = h, s.now
		}
	case what == 8 && id != 0:
		s.h, _ = head.Drop(s.h, id)
	case what == 9 && id != 0:
		s.back(id)
	}
}

// P6.5: whatever is written, removed and dropped, an object that differs
// between two versions is in their Diff.
func TestDiffOfStories(t *testing.T) {
	r := random(9)
	for range 200 {
		h, _ := head.New(api.Layout{Unit: 64, Count: 8, Object: 64}, 512)
		s := &story{h: h, at: map[int][8]int{}}
		for range 60 {
			s.act(&r)
			for first, from := range ids(s.h)[:len(s.h.Snaps)] {
				for _, to := range ids(s.h)[first:] {
					l, e := head.Diff(s.h, from, to)
					end := s.now
					if to != 0 {
						end = s.at[to]
					}
					for object := range 8 {
						if e != api.OK || s.at[from][object] != end[object] && !slices.Contains(l, object) {
							t.Fatalf("Diff(%v, %d, %d) = %v, %v, without object %d", s.h, from, to, l, e, object)
						}
					}
				}
			}
		}
	}
}

// spare is h with spare capacity behind each list, and a function that reports
// whether h and the spare capacity are as they were.
func spare(h api.Head) (api.Head, func() bool) {
	h = cloned(h)
	all := append(h.Snaps, api.Snap{Id: 77, Size: 7, Map: []int{7}}, api.Snap{Id: 78, Size: 8})
	for i, s := range all {
		all[i].Map = append(s.Map, 7, 1, 2, 0, 9)[:len(s.Map)]
	}
	h.Map = append(h.Map, 7, 1, 2, 0, 9)[:len(h.Map)]
	h.Snaps = all[:len(h.Snaps)]
	state := func() string {
		text := fmt.Sprint(h, h.Map[:len(h.Map)+5])
		for _, s := range all {
			text += fmt.Sprint(s, s.Map[:len(s.Map)+5])
		}
		return text
	}
	before := state()
	return h, func() bool { return state() == before }
}

// spoil changes a result and its spare capacity.
func spoil[T any](out []T, to T) {
	out = out[:cap(out)]
	for i := range out {
		out[i] = to
	}
}

// spoilHead changes all that a header refers to.
func spoilHead(h api.Head) {
	spoil(h.Map, 99)
	for _, s := range h.Snaps {
		spoil(s.Map, 99)
	}
	spoil(h.Snaps, api.Snap{Id: 99, Size: 99})
}

// P6.1 to P6.4: the headers and bytes that are handed in stay as they were,
// also when what was returned is changed and appended to.
func TestArgumentsStay(t *testing.T) {
	heads := append(rightHeads(), withSnaps(9, 1, 2, 3, 4, 5), withSnaps(9, 3, 2), api.Head{})
	for _, plain := range heads {
		h, same := spare(plain)
		check := func(call string) {
			t.Helper()
			if !same() {
				t.Fatalf("%s changed %v", call, plain)
			}
		}
		head.Check(h)
		head.Newest(h)
		spoil(head.Pack(h), 99)
		check("Check, Newest or Pack")
		got, _, _ := head.Snap(h)
		check("Snap")
		spoilHead(got)
		check("what Snap returned")
		for _, id := range append(ids(plain), -1, 50) {
			head.Find(h, id)
			got, _ := head.Drop(h, id)
			check("Find or Drop")
			spoilHead(got)
			check("what Drop returned")
			for _, to := range append(ids(plain), -1, 50) {
				l, _ := head.Diff(h, id, to)
				check("Diff")
				spoil(l, 99)
				check("what Diff returned")
			}
		}
	}
}

// P6.2: Unpack neither changes nor keeps its bytes, whatever it returns.
func TestBytesStay(t *testing.T) {
	for _, h := range rightHeads() {
		b := head.Pack(h)
		for _, n := range []int{len(b), len(b) - 1, len(b) + 1, 20} {
			whole := append(slices.Clone(b), 1, 2, 3, 4)
			got, e := head.Unpack(whole[:n])
			if !bytes.Equal(whole, append(slices.Clone(b), 1, 2, 3, 4)) {
				t.Fatalf("Unpack changed %v", b)
			}
			spoil(whole, 99)
			if e == api.OK && !sameHead(got, h) {
				t.Fatalf("what Unpack returned changed with its bytes: %v", got)
			}
		}
		one, _ := head.Unpack(b)
		two, _ := head.Unpack(b)
		spoilHead(one)
		if !sameHead(two, h) {
			t.Fatalf("the results of two calls share memory: %v", two)
		}
	}
}

// shares reports whether a change of one list of h, or what is appended to it,
// changes another one.
func shares(h api.Head) bool {
	for i := range len(h.Snaps) + 1 {
		x := cloned(h)
		lists := []*[]int{&h.Map}
		for k := range h.Snaps {
			lists = append(lists, &h.Snaps[k].Map)
		}
		before := slices.Clone(*lists[i])
		full := (*lists[i])[:cap(*lists[i])]
		for k := range full {
			full[k] = 1000 + k
		}
		*lists[i] = before
		if !sameHead(x, h) {
			return true
		}
	}
	return false
}

// P6.2, P6.3: no two lists of a result share memory.
func TestResultsShareNothing(t *testing.T) {
	for _, h := range rightHeads() {
		got, _ := head.Unpack(head.Pack(h))
		if shares(got) {
			t.Fatalf("lists of Unpack share memory: %v", h)
		}
		if got, _, _ := head.Snap(h); shares(got) {
			t.Fatalf("lists of Snap share memory: %v", h)
		}
		for _, s := range h.Snaps {
			if got, _ := head.Drop(h, s.Id); shares(got) {
				t.Fatalf("lists of Drop share memory: %v", h)
			}
		}
	}
}
