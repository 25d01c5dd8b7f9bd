package stripe_test

import (
	"math"
	"slices"
	"testing"

	"terrazzo/api"
	"terrazzo/stripe"
)

const bound = 1 << 40 // the greatest argument

// spot is where a byte is stored.
type spot struct{ object, off int }

// layouts are all layouts that are valid.
func layouts() []api.Layout {
	var l []api.Layout
	for unit := 1; unit <= 64; unit++ {
		for count := 1; count <= 8; count++ {
			for object := unit; object <= 64; object += unit {
				l = append(l, api.Layout{Unit: unit, Count: count, Object: object})
			}
		}
	}
	return l
}

// someLayouts are one unit and one object, units as large as objects, and others.
func someLayouts() []api.Layout {
	return []api.Layout{
		{Unit: 2, Count: 3, Object: 4},
		{Unit: 1, Count: 1, Object: 1},
		{Unit: 1, Count: 8, Object: 1},
		{Unit: 1, Count: 1, Object: 64},
		{Unit: 1, Count: 8, Object: 64},
		{Unit: 64, Count: 1, Object: 64},
		{Unit: 64, Count: 8, Object: 64},
		{Unit: 7, Count: 1, Object: 7},
		{Unit: 7, Count: 3, Object: 7},
		{Unit: 4, Count: 1, Object: 12},
		{Unit: 3, Count: 2, Object: 63},
		{Unit: 5, Count: 7, Object: 20},
		{Unit: 32, Count: 5, Object: 64},
	}
}

// wrongLayouts are layouts that are not valid, in each of the ways.
func wrongLayouts() []api.Layout {
	return []api.Layout{
		{},
		{Unit: 0, Count: 3, Object: 4},
		{Unit: 0, Count: 3, Object: 0},
		{Unit: -1, Count: 3, Object: 4},
		{Unit: -2, Count: 3, Object: -2},
		{Unit: -4, Count: 3, Object: 4},
		{Unit: math.MinInt, Count: 3, Object: 4},
		{Unit: 2, Count: 0, Object: 4},
		{Unit: 2, Count: -1, Object: 4},
		{Unit: 2, Count: 9, Object: 4},
		{Unit: 2, Count: math.MaxInt, Object: 4},
		{Unit: 2, Count: math.MinInt, Object: 4},
		{Unit: 2, Count: 3, Object: 0},
		{Unit: 2, Count: 3, Object: -2},
		{Unit: 2, Count: 3, Object: math.MinInt},
		{Unit: 8, Count: 3, Object: 4},
		{Unit: 5, Count: 3, Object: 4},
		{Unit: math.MaxInt, Count: 3, Object: 4},
		{Unit: 2, Count: 3, Object: 5},
		{Unit: 48, Count: 3, Object: 64},
		{Unit: 1, Count: 3, Object: 65},
		{Unit: 65, Count: 3, Object: 65},
		{Unit: 33, Count: 3, Object: 66},
		{Unit: 2, Count: 3, Object: math.MaxInt - 1},
	}
}

// wrongArguments are arguments that are out of their bounds.
func wrongArguments() []int {
	return []int{-1, -2, -bound, math.MinInt, bound + 1, bound + 2, math.MaxInt}
}

// spread stores n bytes, one unit after the other as the chapter describes it.
func spread(l api.Layout, n int) []spot {
	var spots []spot
	first := 0 // the first object of the set
	for {
		for filled := 0; filled < l.Object; filled += l.Unit {
			for object := first; object < first+l.Count; object++ {
				for i := range l.Unit {
					if len(spots) == n {
						return spots
					}
					spots = append(spots, spot{object, filled + i})
				}
			}
		}
		first += l.Count
	}
}

// join makes pieces of the places of consecutive bytes.
func join(spots []spot) []api.Piece {
	var pieces []api.Piece
	for i, s := range spots {
		if i > 0 && spots[i-1] == (spot{s.object, s.off - 1}) {
			pieces[len(pieces)-1].Len++
		} else {
			pieces = append(pieces, api.Piece{Object: s.object, Off: s.off, Len: 1, From: i})
		}
	}
	return pieces
}

// at is Place, as a spot.
func at(l api.Layout, off int) spot {
	object, in := stripe.Place(l, off)
	return spot{object, in}
}

// P3.1, P3.2, P3.3: the examples of the chapter.
func TestExamples(t *testing.T) {
	l := api.Layout{Unit: 2, Count: 3, Object: 4}
	for off, want := range map[int]spot{0: {0, 0}, 1: {0, 1}, 2: {1, 0}, 3: {1, 1}, 4: {2, 0}, 5: {2, 1}, 6: {0, 2}, 7: {0, 3}, 12: {3, 0}} {
		if got := at(l, off); got != want {
			t.Errorf("byte %d is stored at %v, want %v", off, got, want)
		}
		if got := stripe.Back(l, want.object, want.off); got != off {
			t.Errorf("Back(%v) = %d, want %d", want, got, off)
		}
	}
	want := []api.Piece{{Object: 0, Off: 1, Len: 1, From: 0}, {Object: 1, Off: 0, Len: 2, From: 1}, {Object: 2, Off: 0, Len: 1, From: 3}}
	if got := stripe.Pieces(l, 1, 4); !slices.Equal(got, want) {
		t.Error(got)
	}
	if stripe.Objects(l, 13) != 4 || stripe.Room(l, 0, 7) != 3 {
		t.Error(stripe.Objects(l, 13), stripe.Room(l, 0, 7))
	}
}

// P3.1: layouts that are valid, and that are not.
func TestCheck(t *testing.T) {
	valid := map[api.Layout]bool{}
	for _, l := range layouts() {
		valid[l] = true
	}
	for unit := -2; unit <= 130; unit++ {
		for count := -2; count <= 18; count++ {
			for object := -4; object <= 130; object++ {
				l := api.Layout{Unit: unit, Count: count, Object: object}
				want := api.ErrArg
				if valid[l] {
					want = api.OK
				}
				if got := stripe.Check(l); got != want {
					t.Fatalf("Check(%v) = %d, want %d", l, got, want)
				}
			}
		}
	}
	for _, l := range wrongLayouts() {
		if got := stripe.Check(l); got != api.ErrArg {
			t.Errorf("Check(%v) = %d", l, got)
		}
	}
	if len(valid) != 280*8 || api.MaxObject != 64 || api.MaxSize != 512 {
		t.Error(len(valid))
	}
}

// P3.1, P3.4: every byte of every layout has a place of its own, and is found again.
func TestPlaceAndBack(t *testing.T) {
	for _, l := range layouts() {
		taken := map[spot]bool{}
		for off, want := range spread(l, 1100) {
			if got := at(l, off); got != want || taken[got] {
				t.Fatalf("%v: byte %d is stored at %v, want %v", l, off, got, want)
			}
			taken[want] = true
			if got := stripe.Back(l, want.object, want.off); got != off {
				t.Fatalf("%v: Back(%v) = %d, want %d", l, want, got, off)
			}
		}
	}
}

// P3.1: an object set further on is laid like the first one, up to the greatest offset.
func TestPlaceFarAway(t *testing.T) {
	for _, l := range someLayouts() {
		set := l.Count * l.Object
		first := spread(l, set)
		for back := range 1100 {
			off := bound - back
			want := first[off%set]
			want.object += off / set * l.Count
			if got := at(l, off); got != want {
				t.Fatalf("%v: byte %d is stored at %v, want %v", l, off, got, want)
			}
			if want.object <= bound && stripe.Back(l, want.object, want.off) != off {
				t.Fatalf("%v: Back(%v) is not %d", l, want, off)
			}
		}
	}
}

// P3.1: Back up to the greatest object, and for offsets that no object has.
func TestBackBounds(t *testing.T) {
	for _, l := range someLayouts() {
		set := l.Count * l.Object
		first := spread(l, set)
		for object := bound - 9; object <= bound; object++ {
			for i, s := range first {
				want := object/l.Count*set + i
				if s.object == object%l.Count && stripe.Back(l, object, s.off) != want {
					t.Errorf("%v: Back(%d, %d) is not %d", l, object, s.off, want)
				}
			}
		}
		for _, object := range []int{0, 1, 7, bound} {
			for _, off := range []int{l.Object, l.Object + 1, 2 * l.Object, 65, bound} {
				if got := stripe.Back(l, object, off); got != -1 {
					t.Errorf("%v: Back(%d, %d) = %d", l, object, off, got)
				}
			}
		}
	}
}

// P3.1, P3.2, P3.3: what is returned for a layout that is not valid.
func TestWrongLayouts(t *testing.T) {
	for _, l := range wrongLayouts() {
		for _, n := range []int{0, 1, 7, 512, -1, bound + 1} {
			nothing(t, l, n, n, n)
		}
	}
}

// nothing holds that no function has a result.
func nothing(t *testing.T, l api.Layout, object, off, size int) {
	t.Helper()
	if got := at(l, off); got != (spot{-1, -1}) {
		t.Errorf("Place(%v, %d) = %v", l, off, got)
	}
	if got := stripe.Back(l, object, off); got != -1 {
		t.Errorf("Back(%v, %d, %d) = %d", l, object, off, got)
	}
	if got := stripe.Pieces(l, off, size); len(got) != 0 {
		t.Errorf("Pieces(%v, %d, %d) = %v", l, off, size, got)
	}
	if got := stripe.Objects(l, size); got != 0 {
		t.Errorf("Objects(%v, %d) = %d", l, size, got)
	}
	if got := stripe.Room(l, object, size); got != 0 {
		t.Errorf("Room(%v, %d, %d) = %d", l, object, size, got)
	}
}

// P3.1, P3.2, P3.3: what is returned for arguments out of their bounds, each alone and all together.
func TestWrongArguments(t *testing.T) {
	for _, l := range someLayouts() {
		for _, n := range wrongArguments() {
			nothing(t, l, n, n, n)
			if got := stripe.Back(l, n, 0); got != -1 {
				t.Errorf("Back(%v, %d, 0) = %d", l, n, got)
			}
			if got := stripe.Back(l, 0, n); got != -1 {
				t.Errorf("Back(%v, 0, %d) = %d", l, n, got)
			}
			if got := stripe.Pieces(l, n, 1); len(got) != 0 {
				t.Errorf("Pieces(%v, %d, 1) = %v", l, n, got)
			}
			if got := stripe.Pieces(l, 0, n); len(got) != 0 {
				t.Errorf("Pieces(%v, 0, %d) = %v", l, n, got)
			}
			if got := stripe.Room(l, n, 512); got != 0 {
				t.Errorf("Room(%v, %d, 512) = %d", l, n, got)
			}
			if got := stripe.Room(l, 0, n); got != 0 {
				t.Errorf("Room(%v, 0, %d) = %d", l, n, got)
			}
		}
	}
}

// P3.2: pieces of no bytes, of one, of MaxSize, of one more.
func TestPiecesOfSizes(t *testing.T) {
	for _, l := range layouts() {
		for _, off := range []int{0, 1, 63, 64, 511, 512, bound} {
			if got := stripe.Pieces(l, off, 0); len(got) != 0 {
				t.Fatalf("%v: no bytes from %d: %v", l, off, got)
			}
			object, in := stripe.Place(l, off)
			if got := stripe.Pieces(l, off, 1); !slices.Equal(got, []api.Piece{{Object: object, Off: in, Len: 1}}) {
				t.Fatalf("%v: one byte from %d: %v", l, off, got)
			}
			for _, n := range []int{513, 514, 1024, bound} {
				if got := stripe.Pieces(l, off, n); len(got) != 0 {
					t.Fatalf("%v: %d bytes from %d: %v", l, n, off, got)
				}
			}
		}
		spots := spread(l, 1100)
		for _, off := range []int{0, 1, l.Unit - 1, l.Object, 500, 588} {
			if got := stripe.Pieces(l, off, 512); !slices.Equal(got, join(spots[off:off+512])) {
				t.Fatalf("%v: 512 bytes from %d: %v", l, off, got)
			}
		}
	}
}

// P3.2: pieces of spans of some layouts, from each offset and of lengths that grow.
func TestPiecesOfSpans(t *testing.T) {
	for _, l := range someLayouts() {
		spots := spread(l, 640)
		for off := range 140 {
			for n := 0; n <= 500; n += 1 + n/8 {
				if got := stripe.Pieces(l, off, n); !slices.Equal(got, join(spots[off:off+n])) {
					t.Fatalf("%v: %d bytes from %d: %v", l, n, off, got)
				}
			}
		}
	}
}

// P3.2: the units of a single object are one piece, those of several are not, nor are units as large as objects.
func TestPiecesCombined(t *testing.T) {
	for _, c := range []struct {
		l      api.Layout
		off, n int
		want   []api.Piece
	}{
		{api.Layout{Unit: 2, Count: 1, Object: 8}, 1, 6, []api.Piece{{Object: 0, Off: 1, Len: 6, From: 0}}},
		{api.Layout{Unit: 2, Count: 1, Object: 8}, 7, 10, []api.Piece{{Object: 0, Off: 7, Len: 1, From: 0}, {Object: 1, Off: 0, Len: 8, From: 1}, {Object: 2, Off: 0, Len: 1, From: 9}}},
		{api.Layout{Unit: 4, Count: 1, Object: 4}, 2, 6, []api.Piece{{Object: 0, Off: 2, Len: 2, From: 0}, {Object: 1, Off: 0, Len: 4, From: 2}}},
		{api.Layout{Unit: 4, Count: 2, Object: 4}, 6, 4, []api.Piece{{Object: 1, Off: 2, Len: 2, From: 0}, {Object: 2, Off: 0, Len: 2, From: 2}}},
		{api.Layout{Unit: 2, Count: 2, Object: 4}, 0, 6, []api.Piece{{Object: 0, Off: 0, Len: 2, From: 0}, {Object: 1, Off: 0, Len: 2, From: 2}, {Object: 0, Off: 2, Len: 2, From: 4}}},
		{api.Layout{Unit: 1, Count: 1, Object: 1}, 5, 2, []api.Piece{{Object: 5, Off: 0, Len: 1, From: 0}, {Object: 6, Off: 0, Len: 1, From: 1}}},
	} {
		if got := stripe.Pieces(c.l, c.off, c.n); !slices.Equal(got, c.want) {
			t.Errorf("%v: %d bytes from %d: %v, want %v", c.l, c.n, c.off, got, c.want)
		}
	}
}

// P3.2, P3.4: a span that ends beyond the greatest offset has all its pieces.
func TestPiecesFarAway(t *testing.T) {
	for _, l := range someLayouts() {
		set := l.Count * l.Object
		first := spread(l, set)
		for off := bound - 520; off <= bound; off++ {
			var spots []spot
			for i := range 512 {
				s := first[(off+i)%set]
				s.object += (off + i) / set * l.Count
				spots = append(spots, s)
			}
			for _, n := range []int{1, 17, 512} {
				if got := stripe.Pieces(l, off, n); !slices.Equal(got, join(spots[:n])) {
					t.Fatalf("%v: %d bytes from %d: %v", l, n, off, got)
				}
			}
		}
	}
}

// P3.4: the pieces of a span contain every byte of it exactly once.
func TestPiecesCover(t *testing.T) {
	for _, l := range layouts() {
		for _, span := range [][2]int{{0, 512}, {3, 200}, {61, 9}, {300, 512}} {
			off, end := span[0], 0
			for _, p := range stripe.Pieces(l, off, span[1]) {
				if p.From != end || p.Len < 1 || p.Off+p.Len > l.Object {
					t.Fatalf("%v: piece %v of %v after %d bytes", l, p, span, end)
				}
				for i := range p.Len {
					if stripe.Back(l, p.Object, p.Off+i) != off+p.From+i {
						t.Fatalf("%v: byte %d of piece %v of %v", l, i, p, span)
					}
				}
				end += p.Len
			}
			if end != span[1] {
				t.Fatalf("%v: %d bytes of %v", l, end, span)
			}
		}
	}
}

// P3.2: pieces are new memory.
func TestPiecesAreNew(t *testing.T) {
	l := api.Layout{Unit: 2, Count: 3, Object: 4}
	got, kept := stripe.Pieces(l, 1, 30), stripe.Pieces(l, 1, 30)
	clear(got[:cap(got)])
	if again := stripe.Pieces(l, 1, 30); !slices.Equal(again, kept) || len(kept) != 16 {
		t.Error(kept, again)
	}
}

// P3.3: objects and room of every size, up to MaxSize and beyond.
func TestObjectsAndRoom(t *testing.T) {
	for _, l := range layouts() {
		room := make([]int, 530)
		objects := 0
		spots := spread(l, 512)
		for size := 0; size <= 512; size++ {
			if size > 0 {
				s := spots[size-1]
				room[s.object] = max(room[s.object], s.off+1)
				objects = max(objects, s.object+1)
			}
			if got := stripe.Objects(l, size); got != objects {
				t.Fatalf("%v: %d objects for size %d, want %d", l, got, size, objects)
			}
			for object := range min(objects+l.Count+1, len(room)) {
				if got := stripe.Room(l, object, size); got != room[object] {
					t.Fatalf("%v: room %d of object %d for size %d, want %d", l, got, object, size, room[object])
				}
			}
		}
		for _, size := range []int{513, 514, 1024, 4096, bound} {
			if stripe.Objects(l, size) != 0 || stripe.Room(l, 0, size) != 0 {
				t.Fatalf("%v: objects %d, room %d for size %d", l, stripe.Objects(l, size), stripe.Room(l, 0, size), size)
			}
		}
	}
}

// P3.3: sizes 0 and MaxSize, and objects far away.
func TestObjectsAndRoomEdges(t *testing.T) {
	for _, c := range []struct {
		l          api.Layout
		size       int
		objects    int
		object     int
		roomWanted int
	}{
		{api.Layout{Unit: 1, Count: 1, Object: 1}, 512, 512, 511, 1},
		{api.Layout{Unit: 1, Count: 1, Object: 1}, 512, 512, 512, 0},
		{api.Layout{Unit: 1, Count: 1, Object: 1}, 0, 0, 0, 0},
		{api.Layout{Unit: 64, Count: 8, Object: 64}, 512, 8, 7, 64},
		{api.Layout{Unit: 64, Count: 8, Object: 64}, 449, 8, 7, 1},
		{api.Layout{Unit: 64, Count: 8, Object: 64}, 448, 7, 7, 0},
		{api.Layout{Unit: 1, Count: 8, Object: 64}, 1, 1, 0, 1},
		{api.Layout{Unit: 1, Count: 8, Object: 64}, 9, 8, 0, 2},
		{api.Layout{Unit: 2, Count: 3, Object: 4}, 13, 4, 3, 1},
		{api.Layout{Unit: 2, Count: 3, Object: 4}, 512, 129, bound, 0},
		{api.Layout{Unit: 64, Count: 8, Object: 64}, 512, 8, bound, 0},
	} {
		if got := stripe.Objects(c.l, c.size); got != c.objects {
			t.Errorf("%v: %d objects for size %d, want %d", c.l, got, c.size, c.objects)
		}
		if got := stripe.Room(c.l, c.object, c.size); got != c.roomWanted {
			t.Errorf("%v: room %d of object %d for size %d, want %d", c.l, got, c.object, c.size, c.roomWanted)
		}
	}
}

// P3.4: the first bytes of an image occupy each object from its beginning to its room.
func TestRoomIsFull(t *testing.T) {
	for _, l := range someLayouts() {
		for size := 0; size <= 512; size++ {
			total := 0
			for object := range stripe.Objects(l, size) {
				room := stripe.Room(l, object, size)
				for off := range l.Object {
					if (stripe.Back(l, object, off) < size) != (off < room) {
						t.Fatalf("%v: size %d, object %d, offset %d, room %d", l, size, object, off, room)
					}
				}
				total += room
			}
			if total != size {
				t.Fatalf("%v: %d bytes are stored of %d", l, total, size)
			}
		}
	}
}
