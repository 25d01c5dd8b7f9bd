package entry_test

import (
	"bytes"
	"encoding/binary"
	"fmt"
	"hash/crc32"
	"math"
	"slices"
	"strings"
	"testing"

	"terrazzo/api"
	"terrazzo/entry"
	"terrazzo/frame"
)

// The numbers of the kinds, as they are encoded.
const (
	write   = 1
	discard = 2
	resize  = 3
	snap    = 4
	drop    = 5
	back    = 6
)

// kinds are the six kinds, and otherKinds are some that are none of them.
var (
	kinds      = []int{write, discard, resize, snap, drop, back}
	otherKinds = []int{math.MinInt, -256, -6, -1, 0, 7, 8, 9, 16, 255, 256, 256 + write, 1<<16 + drop, 1<<32 + snap, math.MaxInt}
)

// pattern is n bytes that are not all the same.
func pattern(n int) []byte {
	b := make([]byte, n)
	for i := range b {
		b[i] = byte(i*7 + i>>8 + 1)
	}
	return b
}

// every is an entry of a kind with each field set to what every kind allows.
func every(kind int) api.Entry {
	return api.Entry{Seq: 1<<32 + 3, Owner: 5, Kind: kind, Off: 258, Len: 511, Snap: 99, Data: []byte("abc")}
}

// sameEntry reports whether a and b agree in each field.
func sameEntry(a, b api.Entry) bool {
	return a.Seq == b.Seq && a.Owner == b.Owner && a.Kind == b.Kind && a.Off == b.Off && a.Len == b.Len && a.Snap == b.Snap &&
		bytes.Equal(a.Data, b.Data)
}

// cloned is e in new memory.
func cloned(e api.Entry) api.Entry {
	e.Data = bytes.Clone(e.Data)
	return e
}

// random yields numbers that are the same in every run.
type random uint64

func (r *random) below(n int) int {
	*r = *r*6364136223846793005 + 1442695040888963407
	return int(uint64(*r) >> 33 % uint64(n))
}

// one is one of these numbers.
func (r *random) one(of ...int) int { return of[r.below(len(of))] }

// entry is an entry of one of the six kinds that is valid; fields that are not
// of its kind are anything.
func (r *random) entry() api.Entry {
	e := api.Entry{
		Seq:   r.one(1, 2, 255, 256, 1<<16, 1<<32+7, 1<<40-1, 1<<40),
		Owner: r.below(8),
		Kind:  1 + r.below(6),
		Off:   r.one(0, 1, 255, 256, 511, 512),
		Len:   r.one(1, 2, 255, 256, 511, 512),
		Snap:  r.one(1, 2, 50, 99, 100),
		Data:  pattern(r.one(1, 2, 127, 128)),
	}
	anything := func(n *int) { *n = r.one(*n, 0, -1, 600, 1<<20, math.MinInt, math.MaxInt) }
	if e.Kind != write && e.Kind != discard {
		anything(&e.Off)
	}
	if e.Kind != discard && e.Kind != resize {
		anything(&e.Len)
	}
	if e.Kind != drop && e.Kind != back {
		anything(&e.Snap)
	}
	if e.Kind != write {
		e.Data = pattern(r.one(0, 1, 128, 129, 1000))
	}
	return e
}

// from reports whether n is from least to most.
func from(least, n, most int) bool { return least <= n && n <= most }

// valid follows the words of the chapter.
func valid(e api.Entry) bool {
	if !from(1, e.Seq, 1<<40) || !from(0, e.Owner, 7) {
		return false
	}
	return e.Kind == write && from(0, e.Off, 512) && from(1, len(e.Data), 128) ||
		e.Kind == discard && from(0, e.Off, 512) && from(1, e.Len, 512) ||
		e.Kind == resize && from(0, e.Len, 512) ||
		e.Kind == snap ||
		(e.Kind == drop || e.Kind == back) && from(1, e.Snap, 100)
}

// cleaned follows the words of the chapter.
func cleaned(e api.Entry) api.Entry {
	c := api.Entry{Seq: e.Seq, Owner: e.Owner, Kind: e.Kind}
	switch e.Kind {
	case write:
		c.Off, c.Data = e.Off, e.Data
	case discard:
		c.Off, c.Len = e.Off, e.Len
	case resize:
		c.Len = e.Len
	case drop, back:
		c.Snap = e.Snap
	}
	return c
}

// big is the encoding of n in so many bytes, as far as they hold it.
func big(n, width int) []byte {
	return binary.BigEndian.AppendUint64(nil, uint64(n))[8-width:]
}

// blob is the encoding of b as a blob.
func blob(b []byte) []byte { return append(big(len(b), 2), b...) }

// bodyOf is the body of e, valid or not, each field by hand.
func bodyOf(e api.Entry) []byte {
	return slices.Concat(big(e.Seq, 6), big(e.Owner, 1), big(e.Off, 2), big(e.Len, 2), big(e.Snap, 1), blob(e.Data))
}

// sealed is b followed by its checksum, computed by the library.
func sealed(b []byte) []byte {
	sum := crc32.Checksum(b, crc32.MakeTable(crc32.Castagnoli))
	return binary.LittleEndian.AppendUint32(bytes.Clone(b), sum)
}

// framed is the frame of a body, written apart from the program.
func framed(kind int, body []byte) []byte {
	head := slices.Concat([]byte{90, byte(kind)}, big(len(body), 2))
	return append(sealed(head), sealed(body)...)
}

// packed is the encoding of e as it stands, valid or not, clean or not.
func packed(e api.Entry) []byte { return framed(e.Kind, bodyOf(e)) }

// fields reads a body by the words of the chapter.
type fields struct {
	b []byte
	e api.Errno
}

func (f *fields) take(n int) []byte {
	if f.e == api.OK && len(f.b) < n {
		f.e = api.ErrShort
	}
	if f.e != api.OK {
		return nil
	}
	x := f.b[:n]
	f.b = f.b[n:]
	return x
}

func (f *fields) num(width int) int {
	n := 0
	for _, d := range f.take(width) {
		n = n*256 + int(d)
	}
	return n
}

func (f *fields) blob(most int) []byte {
	n := f.num(2)
	if f.e == api.OK && n > most {
		f.e = api.ErrForm
	}
	return f.take(n)
}

// unpacked is Unpack by the words of the chapter.
func unpacked(b []byte) (api.Entry, api.Errno) {
	kind, body, rest, err := frame.Next(b)
	if err == api.OK && len(rest) > 0 {
		err = api.ErrForm
	}
	f := &fields{b: body, e: err}
	e := api.Entry{Kind: kind, Seq: f.num(6), Owner: f.num(1), Off: f.num(2), Len: f.num(2), Snap: f.num(1), Data: f.blob(128)}
	if f.e == api.OK && len(f.b) > 0 {
		f.e = api.ErrForm
	}
	if f.e == api.OK && (!valid(e) || !sameEntry(e, cleaned(e))) {
		f.e = api.ErrEntry
	}
	if f.e != api.OK {
		return api.Entry{}, f.e
	}
	return e, api.OK
}

// rightEntries are entries that are valid, about the edges; fields that are
// not of the kind are zero, right or wrong.
func rightEntries() []api.Entry {
	var l []api.Entry
	for _, kind := range kinds {
		for _, seq := range []int{1, 2, 7, 255, 256, 1<<32 - 1, 1 << 32, 1<<40 - 1, 1 << 40} {
			e := every(kind)
			e.Seq = seq
			l = append(l, e)
		}
		for owner := range 8 {
			e := every(kind)
			e.Owner = owner
			l = append(l, e)
		}
		l = append(l, cleaned(every(kind)))
	}
	for _, n := range []int{0, 1, 2, 255, 256, 257, 511, 512} {
		l = append(l,
			api.Entry{Seq: 1, Kind: write, Off: n, Data: []byte("a")},
			api.Entry{Seq: 1, Kind: discard, Off: n, Len: 1},
			api.Entry{Seq: 1, Kind: discard, Off: n, Len: 512},
			api.Entry{Seq: 1, Kind: discard, Off: 512 - n, Len: max(n, 1)},
			api.Entry{Seq: 1, Kind: resize, Len: n})
	}
	for _, n := range []int{1, 2, 99, 100} {
		l = append(l, api.Entry{Seq: 1, Kind: drop, Snap: n}, api.Entry{Seq: 1, Kind: back, Snap: n})
	}
	for _, n := range []int{1, 2, 127, 128} {
		l = append(l, api.Entry{Seq: 1, Kind: write, Data: pattern(n)}, api.Entry{Seq: 1, Kind: write, Off: 512, Data: make([]byte, n)})
	}
	for _, n := range []int{math.MinInt, -1, 0, 513, 1 << 16, math.MaxInt} {
		l = append(l,
			api.Entry{Seq: 1, Kind: write, Data: []byte("a"), Len: n, Snap: n},
			api.Entry{Seq: 1, Kind: discard, Len: 1, Snap: n, Data: pattern(129)},
			api.Entry{Seq: 1, Kind: resize, Off: n, Snap: n, Data: pattern(129)},
			api.Entry{Seq: 1, Kind: snap, Off: n, Len: n, Snap: n, Data: pattern(129)},
			api.Entry{Seq: 1, Kind: drop, Snap: 1, Off: n, Len: n, Data: pattern(129)},
			api.Entry{Seq: 1, Kind: back, Snap: 1, Off: n, Len: n, Data: pattern(129)})
	}
	return l
}

// wrongEntries are entries that are not valid, for each reason.
func wrongEntries() []api.Entry {
	var l []api.Entry
	for _, kind := range kinds {
		for _, seq := range []int{math.MinInt, -1, 0, 1<<40 + 1, 1 << 41, 1<<48 - 1, 1<<48 + 1, math.MaxInt} {
			e := every(kind)
			e.Seq = seq
			l = append(l, e)
		}
		for _, owner := range []int{math.MinInt, -1, 8, 9, 255, 256, 256 + 5, math.MaxInt} {
			e := every(kind)
			e.Owner = owner
			l = append(l, e)
		}
	}
	for _, kind := range otherKinds {
		l = append(l, every(kind), api.Entry{Seq: 1, Kind: kind})
	}
	add := func(kind int, change func(e *api.Entry)) {
		e := every(kind)
		change(&e)
		l = append(l, e)
	}
	for _, n := range []int{math.MinInt, -1, 513, 1 << 16, 1<<16 + 1, math.MaxInt} {
		add(write, func(e *api.Entry) { e.Off = n })
		add(discard, func(e *api.Entry) { e.Off = n })
		add(discard, func(e *api.Entry) { e.Len = n })
		add(resize, func(e *api.Entry) { e.Len = n })
	}
	add(discard, func(e *api.Entry) { e.Len = 0 })
	for _, n := range []int{math.MinInt, -1, 0, 101, 102, 255, 256 + 1, math.MaxInt} {
		add(drop, func(e *api.Entry) { e.Snap = n })
		add(back, func(e *api.Entry) { e.Snap = n })
	}
	for _, n := range []int{0, 129, 130, 256, 1<<16 + 1} {
		add(write, func(e *api.Entry) { e.Data = pattern(n) })
	}
	add(write, func(e *api.Entry) { e.Data = nil })
	return l
}

// each calls do with an entry of each combination of these fields.
func each(do func(e api.Entry)) {
	spans := []int{-1, 0, 1, 256, 512, 513, math.MaxInt}
	for _, kind := range append(otherKinds, kinds...) {
		for _, off := range spans {
			for _, n := range spans {
				for _, id := range []int{-1, 0, 1, 100, 101, math.MinInt} {
					for _, size := range []int{0, 1, 2, 127, 128, 129} {
						do(api.Entry{Seq: 9, Owner: 2, Kind: kind, Off: off, Len: n, Snap: id, Data: pattern(size)})
					}
				}
			}
		}
	}
}

// P7.1: the limits and the numbers of the kinds are those that the chapter names.
func TestNumbers(t *testing.T) {
	if api.MaxSize != 512 || api.MaxData != 128 || api.MaxIds != 100 || api.MaxClients != 8 {
		t.Error("other limits")
	}
	named := []int{api.EnWrite, api.EnDiscard, api.EnResize, api.EnSnap, api.EnDrop, api.EnBack}
	if !slices.Equal(named, kinds) {
		t.Error("other kinds")
	}
}

// P7.1: Check of entries that are valid, and of those that are not.
func TestCheck(t *testing.T) {
	for _, e := range rightEntries() {
		if got := entry.Check(e); got != api.OK {
			t.Errorf("Check(%v) = %d", e, got)
		}
	}
	for _, e := range wrongEntries() {
		if got := entry.Check(e); got != api.ErrEntry {
			t.Errorf("Check(%v) = %d", e, got)
		}
	}
}

// P7.1: Check of all combinations of the fields, against its model.
func TestCheckCombined(t *testing.T) {
	check := func(e api.Entry) {
		want := api.ErrEntry
		if valid(e) {
			want = api.OK
		}
		if got := entry.Check(e); got != want {
			t.Fatalf("Check(%v) = %d, want %d", e, got, want)
		}
	}
	each(check)
	for _, kind := range append(otherKinds, kinds...) {
		for _, seq := range []int{-1, 0, 1, 2, 1 << 40, 1<<40 + 1, math.MinInt, math.MaxInt} {
			for _, owner := range []int{-1, 0, 1, 7, 8, 256, math.MinInt, math.MaxInt} {
				e := every(kind)
				e.Seq, e.Owner = seq, owner
				check(e)
			}
		}
	}
}

// P7.1: Clean of each kind, by hand.
func TestCleanByHand(t *testing.T) {
	data := []byte("abc")
	for kind, want := range map[int]api.Entry{
		write:        {Off: 258, Data: data},
		discard:      {Off: 258, Len: 511},
		resize:       {Len: 511},
		snap:         {},
		drop:         {Snap: 99},
		back:         {Snap: 99},
		0:            {},
		7:            {},
		-1:           {},
		math.MinInt:  {},
		math.MaxInt:  {},
		256 + write:  {},
		1<<32 + drop: {},
	} {
		want.Seq, want.Owner, want.Kind = 1<<32+3, 5, kind
		if got := entry.Clean(every(kind)); !sameEntry(got, want) {
			t.Errorf("Clean(%v) = %v, want %v", every(kind), got, want)
		}
	}
}

// P7.1: Clean keeps what is of the kind, whether the entry is valid or not.
func TestCleanCombined(t *testing.T) {
	check := func(e api.Entry) {
		got := entry.Clean(e)
		if !sameEntry(got, cleaned(e)) {
			t.Fatalf("Clean(%v) = %v, want %v", e, got, cleaned(e))
		}
		if again := entry.Clean(got); !sameEntry(again, got) {
			t.Fatalf("Clean(%v) = %v", got, again)
		}
	}
	each(check)
	for _, e := range append(rightEntries(), wrongEntries()...) {
		check(e)
		if got := entry.Check(entry.Clean(e)); got != entry.Check(e) {
			t.Errorf("Check of %v: %d; of Clean of it: %d", e, entry.Check(e), got)
		}
	}
}

// bodies are entries and their bodies, byte by byte.
func bodies() []struct {
	e    api.Entry
	body []byte
} {
	return []struct {
		e    api.Entry
		body []byte
	}{
		{api.Entry{Seq: 7, Owner: 3, Kind: write, Off: 258, Data: []byte("ab")}, []byte{0, 0, 0, 0, 0, 7, 3, 1, 2, 0, 0, 0, 0, 2, 97, 98}},
		{api.Entry{Seq: 1 << 40, Owner: 7, Kind: discard, Off: 512, Len: 511}, []byte{1, 0, 0, 0, 0, 0, 7, 2, 0, 1, 255, 0, 0, 0}},
		{api.Entry{Seq: 0x0203040506, Kind: resize, Len: 0x103}, []byte{0, 2, 3, 4, 5, 6, 0, 0, 0, 1, 3, 0, 0, 0}},
		{api.Entry{Seq: 1, Owner: 1, Kind: snap}, []byte{0, 0, 0, 0, 0, 1, 1, 0, 0, 0, 0, 0, 0, 0}},
		{api.Entry{Seq: 256, Owner: 2, Kind: drop, Snap: 100}, []byte{0, 0, 0, 0, 1, 0, 2, 0, 0, 0, 0, 100, 0, 0}},
		{api.Entry{Seq: 1<<40 - 1, Owner: 4, Kind: back, Snap: 1}, []byte{0, 255, 255, 255, 255, 255, 4, 0, 0, 0, 0, 1, 0, 0}},
	}
}

// P7.2: Pack and Unpack of each kind, by hand.
func TestPackByHand(t *testing.T) {
	for _, c := range bodies() {
		want := framed(c.e.Kind, c.body)
		if got := entry.Pack(c.e); !bytes.Equal(got, want) {
			t.Errorf("Pack(%v) = %v, want %v", c.e, got, want)
		}
		if got, e := entry.Unpack(want); e != api.OK || !sameEntry(got, c.e) {
			t.Errorf("Unpack(%v) = %v, %d, want %v", want, got, e, c.e)
		}
	}
	want := []byte{90, 4, 0, 14, 71, 254, 32, 113, 0, 0, 0, 0, 0, 1, 1, 0, 0, 0, 0, 0, 0, 0, 158, 156, 105, 203}
	if got := entry.Pack(api.Entry{Seq: 1, Owner: 1, Kind: snap}); !bytes.Equal(got, want) {
		t.Errorf("Pack = %v, want %v", got, want)
	}
}

// P7.2, P7.4: Pack against its model, and Unpack of it.
func TestPack(t *testing.T) {
	l := rightEntries()
	r := random(1)
	for range 5000 {
		l = append(l, r.entry())
	}
	for _, e := range l {
		b := entry.Pack(e)
		if !bytes.Equal(b, packed(cleaned(e))) {
			t.Fatalf("Pack(%v) = %v, want %v", e, b, packed(cleaned(e)))
		}
		if got, err := entry.Unpack(b); err != api.OK || !sameEntry(got, cleaned(e)) || !sameEntry(got, entry.Clean(e)) {
			t.Fatalf("Unpack(Pack(%v)) = %v, %d", e, got, err)
		}
	}
	for _, e := range wrongEntries() {
		if b := entry.Pack(e); len(b) != 0 {
			t.Errorf("Pack(%v) = %v", e, b)
		}
	}
}

// P7.2, P7.4: all combinations of the fields.
func TestPackCombined(t *testing.T) {
	each(func(e api.Entry) {
		var want []byte
		if valid(e) {
			want = packed(cleaned(e))
		}
		b := entry.Pack(e)
		if !bytes.Equal(b, want) {
			t.Fatalf("Pack(%v) = %v, want %v", e, b, want)
		}
		got, err := entry.Unpack(b)
		if valid(e) != (err == api.OK) || valid(e) && !sameEntry(got, cleaned(e)) {
			t.Fatalf("Unpack(Pack(%v)) = %v, %d", e, got, err)
		}
	})
}

// unpackFails fails the test unless Unpack returns this error and no entry.
func unpackFails(t *testing.T, what string, b []byte, want api.Errno) {
	t.Helper()
	if e, err := entry.Unpack(b); err != want || !sameEntry(e, api.Entry{}) {
		t.Errorf("%s: Unpack(%v) = %v, error %d, want error %d", what, b, e, err, want)
	}
}

// P7.2: bytes that end too early, or with bytes behind the frame.
func TestUnpackLength(t *testing.T) {
	for _, e := range append(rightEntries(), every(write)) {
		b := entry.Pack(e)
		for n := range b {
			unpackFails(t, "too short", b[:n:n], api.ErrShort)
			unpackFails(t, "too short, with spare capacity", b[:n], api.ErrShort)
		}
		unpackFails(t, "a byte behind", slices.Concat(b, []byte{0}), api.ErrForm)
		unpackFails(t, "a mark behind", slices.Concat(b, []byte{90}), api.ErrForm)
		unpackFails(t, "the frame again behind", slices.Concat(b, b), api.ErrForm)
		unpackFails(t, "many bytes behind", slices.Concat(b, make([]byte, 1<<16)), api.ErrForm)
	}
	unpackFails(t, "nil", nil, api.ErrShort)
	unpackFails(t, "no bytes", []byte{}, api.ErrShort)
	unpackFails(t, "zeros", make([]byte, 100), api.ErrForm)
}

// P7.2: with one bit inverted there is no frame any more, wherever the bit is.
func TestUnpackBits(t *testing.T) {
	for _, c := range bodies() {
		b := entry.Pack(c.e)
		for i := range 8 * len(b) {
			turned := bytes.Clone(b)
			turned[i/8] ^= 1 << (i % 8)
			_, _, _, want := frame.Next(turned)
			if i >= 8 && want != api.ErrSum || i < 8 && want != api.ErrForm {
				t.Fatalf("bit %d: Next returns error %d", i, want)
			}
			unpackFails(t, fmt.Sprint("bit ", i, " turned"), turned, want)
			unpackFails(t, fmt.Sprint("bit ", i, " turned, a byte behind"), append(turned, 0), want)
		}
	}
	unpackFails(t, "a length above MaxBody", sealed([]byte{90, write, 32, 1}), api.ErrForm)
}

// P7.2: frames whose body is too short, or has bytes left; whether what was
// read is valid is not asked before.
func TestUnpackBody(t *testing.T) {
	for _, kind := range append(kinds, 0, 7, 255) {
		for _, e := range []api.Entry{cleaned(every(kind)), every(kind), {Kind: kind}, {Seq: 1 << 47, Kind: kind, Owner: 200, Data: pattern(128)}} {
			body := bodyOf(e)
			for n := range body {
				unpackFails(t, "the body too short", framed(kind, body[:n]), api.ErrShort)
				unpackFails(t, "the body too short, a byte behind the frame", append(framed(kind, body[:n]), 0), api.ErrForm)
			}
			for _, n := range []int{1, 2, 14, 128, 8192 - len(body)} {
				unpackFails(t, "bytes left", framed(kind, slices.Concat(body, make([]byte, n))), api.ErrForm)
			}
			unpackFails(t, "the body twice", framed(kind, slices.Concat(body, body)), api.ErrForm)
		}
	}
	unpackFails(t, "an empty body", framed(write, nil), api.ErrShort)
}

// P7.2: Data of more than 128 bytes is ErrForm, whether its bytes are there or
// not, and whatever else is wrong with the entry.
func TestUnpackData(t *testing.T) {
	for _, kind := range append(kinds, 0, 7, 255) {
		for _, seq := range []int{0, 1, 1<<48 - 1} {
			e := api.Entry{Seq: seq, Kind: kind}
			front := bodyOf(e)[:12]
			for _, n := range []int{129, 130, 255, 256, 257, 384, 1000, 4096} {
				whole := framed(kind, slices.Concat(front, blob(pattern(n))))
				unpackFails(t, "too much Data", whole, api.ErrForm)
				unpackFails(t, "too much Data, bytes left", framed(kind, slices.Concat(front, blob(pattern(n)), []byte{1})), api.ErrForm)
				for _, there := range []int{0, 1, 128, n - 1} {
					unpackFails(t, "too much Data, bytes missing", framed(kind, slices.Concat(front, big(n, 2), pattern(there))), api.ErrForm)
				}
			}
			unpackFails(t, "65535 bytes", framed(kind, slices.Concat(front, []byte{255, 255})), api.ErrForm)
			for _, there := range []int{0, 1, 127} {
				unpackFails(t, "128 bytes, some missing", framed(kind, slices.Concat(front, big(128, 2), pattern(there))), api.ErrShort)
			}
		}
	}
	most := api.Entry{Seq: 1, Kind: write, Data: pattern(128)}
	if e, err := entry.Unpack(packed(most)); err != api.OK || !sameEntry(e, most) {
		t.Errorf("Unpack = %v, %d", e, err)
	}
}

// P7.2: entries that are not valid, of those that can be encoded.
func TestUnpackInvalid(t *testing.T) {
	encodes := 0
	for _, e := range wrongEntries() {
		for _, e := range []api.Entry{e, cleaned(e)} {
			if !from(0, e.Kind, 255) || !from(0, e.Seq, 1<<48-1) || !from(0, e.Owner, 255) || !from(0, e.Off, 65535) ||
				!from(0, e.Len, 65535) || !from(0, e.Snap, 255) || len(e.Data) > 128 {
				continue
			}
			encodes++
			unpackFails(t, "not valid", packed(e), api.ErrEntry)
		}
	}
	if encodes < 100 {
		t.Errorf("only %d entries that are not valid can be encoded", encodes)
	}
	for kind := range 256 {
		if kind < write || kind > back {
			unpackFails(t, "another kind", framed(kind, bodyOf(api.Entry{Seq: 1})), api.ErrEntry)
		}
	}
}

// P7.2: fields that are not of the kind and are set, one at a time.
func TestUnpackOtherFields(t *testing.T) {
	of := map[int]string{write: "Off Data", discard: "Off Len", resize: "Len", snap: "", drop: "Snap", back: "Snap"}
	for _, kind := range kinds {
		e := cleaned(every(kind))
		for _, n := range []int{1, 2, 100, 255, 256, 512, 513, 1 << 15, 65535} {
			for field, change := range map[string]func(e *api.Entry){
				"Off":  func(e *api.Entry) { e.Off = n },
				"Len":  func(e *api.Entry) { e.Len = n },
				"Snap": func(e *api.Entry) { e.Snap = min(n, 255) },
				"Data": func(e *api.Entry) { e.Data = make([]byte, min(n, 128)) },
			} {
				changed := cloned(e)
				change(&changed)
				got, err := entry.Unpack(packed(changed))
				if slices.Contains(strings.Fields(of[kind]), field) {
					if valid(changed) != (err == api.OK) || err == api.OK && !sameEntry(got, changed) {
						t.Errorf("kind %d, %s %d: %v, error %d", kind, field, n, got, err)
					}
				} else if err != api.ErrEntry || !sameEntry(got, api.Entry{}) {
					t.Errorf("kind %d, %s %d: %v, error %d", kind, field, n, got, err)
				}
			}
		}
	}
}

// P7.2: frames of changed bodies, against the model; what is decoded has no
// other encoding.
func TestUnpackChanged(t *testing.T) {
	results := map[api.Errno]int{}
	check := func(b []byte) {
		want, wantErr := unpacked(b)
		e, err := entry.Unpack(b)
		if err != wantErr || !sameEntry(e, want) {
			t.Fatalf("Unpack(%v) = %v, %d, want %v, %d", b, e, err, want, wantErr)
		}
		if again := entry.Pack(e); err == api.OK && !bytes.Equal(again, b) {
			t.Fatalf("Pack(Unpack(%v)) = %v", b, again)
		}
		results[err]++
	}
	for _, c := range bodies() {
		for i := range c.body {
			for x := range 256 {
				body := bytes.Clone(c.body)
				body[i] = byte(x)
				check(framed(c.e.Kind, body))
			}
			check(framed(c.e.Kind, slices.Delete(bytes.Clone(c.body), i, i+1)))
			check(framed(c.e.Kind, slices.Insert(bytes.Clone(c.body), i, 0)))
		}
		for kind := range 256 {
			check(framed(kind, c.body))
		}
	}
	r := random(2)
	for range 20000 {
		e := r.entry()
		body := bodyOf(cleaned(e))
		for range r.below(3) {
			body[r.below(len(body))] = byte(r.one(0, 1, 2, 3, 7, 8, 100, 128, 129, 255))
		}
		check(framed(r.one(e.Kind, e.Kind, e.Kind, r.below(9)), body))
	}
	for _, e := range []api.Errno{api.OK, api.ErrShort, api.ErrForm, api.ErrEntry} {
		if results[e] < 100 {
			t.Errorf("only %d results of error %d", results[e], e)
		}
	}
}

// P7.3: names, by hand.
func TestNameByHand(t *testing.T) {
	for seq, want := range map[int]string{
		7:           "e000000007",
		0:           "e000000000",
		-1:          "e000000000",
		-999999999:  "e000000000",
		math.MinInt: "e000000000",
		10:          "e000000010",
		100000000:   "e100000000",
		123456789:   "e123456789",
		987654321:   "e987654321",
		999999998:   "e999999998",
		999999999:   "e999999999",
		1000000000:  "e999999999",
		1000000001:  "e999999999",
		9999999999:  "e999999999",
		1 << 32:     "e999999999",
		1 << 40:     "e999999999",
		math.MaxInt: "e999999999",
	} {
		if got := entry.Name(seq); got != want {
			t.Errorf("Name(%d) = %q, want %q", seq, got, want)
		}
	}
}

// P7.3, P7.4: names of many numbers; that of the greater one is greater.
func TestNameOrder(t *testing.T) {
	var seqs []int
	for n := range 3000 {
		seqs = append(seqs, n, n*333444, 999999999-n)
	}
	for n := 1; n < 1000000000; n *= 10 {
		seqs = append(seqs, n-1, n, n+1, n*10-2)
	}
	r := random(3)
	for range 3000 {
		seqs = append(seqs, r.below(1000000000))
	}
	slices.Sort(seqs)
	seqs = slices.Compact(seqs)
	for i, seq := range seqs {
		name := entry.Name(seq)
		if want := fmt.Sprintf("e%09d", seq); name != want || len(name) > api.MaxName {
			t.Fatalf("Name(%d) = %q, want %q", seq, name, want)
		}
		if i > 0 && name <= entry.Name(seqs[i-1]) {
			t.Fatalf("Name(%d) is not above Name(%d)", seq, seqs[i-1])
		}
	}
}

// spoil overwrites b, its spare capacity too.
func spoil(b []byte) {
	b = b[:cap(b)]
	for i := range b {
		b[i] ^= 0x55
	}
}

// roomy is b at the beginning of more memory, which is not zero.
func roomy(b []byte) (room, part []byte) {
	room = append(bytes.Clone(b), bytes.Repeat([]byte{77}, 300)...)
	return room, room[:len(b)]
}

// P7.1, P7.2: the entry that is handed in stays as it was, and the results are
// new memory.
func TestLeavesEntries(t *testing.T) {
	for _, e := range append(rightEntries(), wrongEntries()...) {
		room, data := roomy(e.Data)
		kept := bytes.Clone(room)
		e.Data = data
		before := e
		entry.Check(e)
		c := entry.Clean(e)
		b := entry.Pack(e)
		keptClean, keptBytes := cloned(c), bytes.Clone(b)
		spoil(c.Data)
		if !bytes.Equal(b, keptBytes) {
			t.Fatalf("Clean and Pack of %v share memory", e)
		}
		spoil(b)
		if !bytes.Equal(room, kept) || !sameEntry(e, before) {
			t.Fatalf("%v was changed", before)
		}
		if !sameEntry(entry.Clean(e), keptClean) || !bytes.Equal(entry.Pack(e), keptBytes) {
			t.Fatalf("Clean or Pack of %v is not the same again", e)
		}
		c = entry.Clean(e)
		spoil(room)
		if !sameEntry(c, keptClean) {
			t.Fatalf("Clean of %v shares memory with it", e)
		}
	}
}

// P7.2: the bytes that are handed in stay as they were, and the results are
// new memory.
func TestLeavesBytes(t *testing.T) {
	var inputs [][]byte
	for _, e := range rightEntries() {
		b := packed(cleaned(e))
		inputs = append(inputs, b, packed(e), b[:len(b)-1], append(bytes.Clone(b), 1), framed(e.Kind, append(bodyOf(e), 1)))
	}
	for _, b := range inputs {
		room, b := roomy(b)
		kept := bytes.Clone(room)
		e, err := entry.Unpack(b)
		keptEntry := cloned(e)
		spoil(e.Data)
		if !bytes.Equal(room, kept) {
			t.Fatalf("Unpack(%v) changed its argument or shares memory with it", kept[:len(b)])
		}
		e, again := entry.Unpack(b)
		if again != err || !sameEntry(e, keptEntry) {
			t.Fatalf("Unpack(%v) = %v, %d, then %v, %d", b, keptEntry, err, e, again)
		}
		spoil(room)
		if !sameEntry(e, keptEntry) {
			t.Fatalf("Unpack(%v) kept its argument", kept[:len(b)])
		}
	}
}
