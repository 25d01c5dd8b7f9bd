package txn_test

import (
	"bytes"
	"fmt"
	"math"
	"slices"
	"strings"
	"testing"

	"terrazzo/api"
	"terrazzo/object"
	"terrazzo/txn"
)

// The numbers of the kinds, as they are encoded.
const (
	opThere = iota + 1
	opAbsent
	opKeyIs
	opBelow
	opWrite
	opZero
	opCut
	opSet
	opKey
	opDrop
	opClone
	opSeq
	opRemove
	opFrom
)

// The edges of the fields.
var (
	rightNames = []string{"a", "z", "0", "9", ".", "..", "d0.1", "h0", "e000000007", "abcdefghijk", "abcdefghijkl", "............"}
	wrongNames = []string{"", "abcdefghijklm", "A", "Z", "aB", "-", "/", ":", "`", "{", "a b", "a_b", "\x00", "a\x00", "\x80", "\xff", "é", "abcdefghijk!", "!bcdefghijkl", strings.Repeat("a", 255), strings.Repeat("a", 1<<16+1)}
	rightKinds = []int{1, 2, 3, 4, 5, 6, 7, 8, 9, 10, 11, 12, 13, 14}
	wrongKinds = []int{math.MinInt, -14, -1, 0, 15, 16, 255, 256 + opWrite, 1<<32 + opSet, math.MaxInt}
	rightNums  = []int{0, 1, 255, 256, 1<<32 + 5, 1<<40 - 1, 1 << 40}
	wrongNums  = []int{math.MinInt, -1 << 40, -2, -1, 1<<40 + 1, 1 << 41, 1<<48 - 1, 1 << 48, math.MaxInt}
	rightTexts = []string{"", "a", "S", "head", "\x00\xff", "é!", "ABCDEFGHIJK", "abcdefghijkl", "\xff\xff\xff\xff\xff\xff\xff\xff\xff\xff\xff\xff"}
	wrongTexts = []string{"abcdefghijklm", "\x00\x00\x00\x00\x00\x00\x00\x00\x00\x00\x00\x00\x00", strings.Repeat("k", 255), strings.Repeat("k", 1<<16)}
	rightSizes = []int{0, 1, 2, 64, 65, 255, 256, 2047, 2048}
	wrongSizes = []int{2049, 2050, 4096, 1 << 16, 1<<16 + 1}
)

// pattern is n bytes that are not zero, and not all the same.
func pattern(n int) []byte {
	b := make([]byte, n)
	for i := range b {
		b[i] = byte((i*7+i>>8)%251) + 1
	}
	return b
}

// sample is an object with data, keys and a number.
func sample() api.Object {
	return api.Object{Data: []byte("abc"), Keys: []api.Key{{Name: "head", Value: []byte("H")}, {Name: "s001", Value: []byte("one")}, {Name: "s003"}}, Seq: 7}
}

// on is a transaction on an object with a valid name.
func on(ops ...api.Op) api.Txn { return api.Txn{Object: "d0.1", Ops: ops} }

// write is an operation that writes a text.
func write(off int, s string) api.Op { return api.Op{Kind: opWrite, Off: off, Data: []byte(s)} }

// same reports whether a and b have the same contents; nil and empty lists are
// the same.
func same(a, b api.Object) bool { return text(a) == text(b) }

// text tells all of an object.
func text(o api.Object) string {
	s := fmt.Sprintf("%q %d", o.Data, o.Seq)
	for _, k := range o.Keys {
		s += fmt.Sprintf(" %q=%q", k.Name, k.Value)
	}
	return s
}

// told tells all of a transaction.
func told(t api.Txn) string {
	s := fmt.Sprintf("%q", t.Object)
	for _, op := range t.Ops {
		s += fmt.Sprintf(" {%d %d %d %q %q}", op.Kind, op.Off, op.N, op.Name, op.Data)
	}
	return s
}

// short is a text that is cut where it is long.
func short(s string) string { return s[:min(len(s), 400)] }

// random yields numbers that are the same in every run.
type random uint64

func (r *random) below(n int) int {
	*r = *r*6364136223846793005 + 1442695040888963407
	return int(uint64(*r) >> 33 % uint64(n))
}

// pick is one of a list.
func pick[T any](r *random, of ...T) T { return of[r.below(len(of))] }

// object is a valid one.
func (r *random) object() api.Object {
	o := api.Object{Data: pattern(pick(r, 0, 1, 5, 63, 64)), Seq: pick(r, 0, 1, 3, 7, 1<<40-1, 1<<40)}
	for _, n := range []string{"a", "head", "s000", "s001", "s002", "t"} {
		if r.below(2) == 0 {
			o.Keys = append(o.Keys, api.Key{Name: n, Value: pattern(pick(r, 0, 1, 3, 64, 65, 2048))})
		}
	}
	return o
}

// op is one that a transaction may have. Most are applied, some are refused.
func (r *random) op() api.Op {
	return api.Op{
		Kind: pick(r, rightKinds...),
		Off:  pick(r, 0, 0, 1, 2, 31, 62, 65, 1<<40),
		N:    pick(r, 0, 1, 2, 4, 8, 33, 64, 1<<40),
		Name: pick(r, "a", "head", "s000", "s001", "s002", "t", "t", "S"),
		Data: pattern(pick(r, 0, 1, 1, 2, 3, 64, 65, 2048)),
	}
}

// txn is a valid transaction of so many operations.
func (r *random) txn(n int) api.Txn {
	t := api.Txn{Object: pick(r, rightNames...)}
	for range n {
		op := r.op()
		if r.below(4) == 0 {
			op.Name = pick(r, rightTexts...)
		}
		t.Ops = append(t.Ops, op)
	}
	return t
}

// isName follows the words of chapter 8.
func isName(name string) bool {
	for _, c := range []byte(name) {
		if !bytes.Contains([]byte("abcdefghijklmnopqrstuvwxyz0123456789."), []byte{c}) {
			return false
		}
	}
	return 1 <= len(name) && len(name) <= 12
}

// checked follows the words of the chapter.
func checked(t api.Txn) api.Errno {
	if len(t.Ops) > 12 {
		return api.ErrLimit
	}
	ok := isName(t.Object)
	for _, op := range t.Ops {
		ok = ok && 1 <= op.Kind && op.Kind <= 14 && 0 <= op.Off && op.Off <= 1<<40 && 0 <= op.N && op.N <= 1<<40 &&
			len(op.Name) <= 12 && len(op.Data) <= 2048
	}
	if !ok {
		return api.ErrArg
	}
	return api.OK
}

// rightOps are operations that a transaction may have, at the edges of their
// fields.
func rightOps() map[string]api.Op {
	ops := map[string]api.Op{}
	for _, k := range rightKinds {
		ops[fmt.Sprintf("kind %d", k)] = api.Op{Kind: k}
	}
	for _, n := range rightNums {
		ops[fmt.Sprintf("Off %d", n)] = api.Op{Kind: opThere, Off: n}
		ops[fmt.Sprintf("N %d", n)] = api.Op{Kind: opThere, N: n}
	}
	for _, s := range rightTexts {
		ops[fmt.Sprintf("Name %q", s)] = api.Op{Kind: opKey, Name: s}
	}
	for c := range 256 {
		ops[fmt.Sprintf("Name of byte %d", c)] = api.Op{Kind: opKey, Name: string([]byte{byte(c)})}
	}
	for _, n := range rightSizes {
		ops[fmt.Sprintf("%d bytes", n)] = api.Op{Kind: opKey, Data: pattern(n)}
	}
	ops["all at once"] = api.Op{Kind: opFrom, Off: 1 << 40, N: 1 << 40, Name: "ABCDEFGHIJK\xff", Data: pattern(2048)}
	return ops
}

// wrongOps are operations that no transaction may have, each for one reason.
func wrongOps() map[string]api.Op {
	ops := map[string]api.Op{"zero value": {}}
	for _, k := range wrongKinds {
		ops[fmt.Sprintf("kind %d", k)] = api.Op{Kind: k}
	}
	for _, n := range wrongNums {
		ops[fmt.Sprintf("Off %d", n)] = api.Op{Kind: opThere, Off: n}
		ops[fmt.Sprintf("N %d", n)] = api.Op{Kind: opThere, N: n}
	}
	for _, s := range wrongTexts {
		ops["Name "+short(s)] = api.Op{Kind: opDrop, Name: s}
	}
	for _, n := range wrongSizes {
		ops[fmt.Sprintf("%d bytes", n)] = api.Op{Kind: opThere, Data: pattern(n)}
	}
	return ops
}

// many is n operations of one kind.
func many(n, kind int) []api.Op {
	ops := make([]api.Op, n)
	for i := range ops {
		ops[i].Kind = kind
	}
	return ops
}

// P9.1: the numbers of the kinds are those from OpThere to OpFrom.
func TestNumbers(t *testing.T) {
	kinds := []int{api.OpThere, api.OpAbsent, api.OpKeyIs, api.OpBelow, api.OpWrite, api.OpZero, api.OpCut, api.OpSet, api.OpKey, api.OpDrop, api.OpClone, api.OpSeq, api.OpRemove, api.OpFrom}
	if !slices.Equal(kinds, rightKinds) || opThere != 1 || opFrom != 14 {
		t.Error(kinds)
	}
}

// P9.1: names of the object.
func TestCheckNames(t *testing.T) {
	for _, ops := range [][]api.Op{nil, {}, many(1, opThere), many(12, opRemove)} {
		for _, n := range rightNames {
			if e := txn.Check(api.Txn{Object: n, Ops: ops}); e != api.OK {
				t.Errorf("%q with %d operations: %v", n, len(ops), e)
			}
		}
		for _, n := range wrongNames {
			if e := txn.Check(api.Txn{Object: n, Ops: ops}); e != api.ErrArg {
				t.Errorf("%q with %d operations: %v", short(n), len(ops), e)
			}
		}
	}
}

// P9.1: each byte, at each place of a name, is valid or not.
func TestCheckBytes(t *testing.T) {
	for c := range 256 {
		want := api.ErrArg
		if c >= 'a' && c <= 'z' || c >= '0' && c <= '9' || c == '.' {
			want = api.OK
		}
		one := string([]byte{byte(c)})
		for _, name := range []string{one, one + "b", "b" + one, "b" + one + "c", "abcdefghijk" + one, one + "bcdefghijkl"} {
			if e := txn.Check(api.Txn{Object: name}); e != want {
				t.Errorf("%q: %v, want %v", name, e, want)
			}
		}
	}
}

// P9.1: the fields of an operation, wherever it is.
func TestCheckOps(t *testing.T) {
	for what, op := range rightOps() {
		for n := 1; n <= 12; n++ {
			for i := range n {
				ops := many(n, opFrom)
				ops[i] = op
				if e := txn.Check(on(ops...)); e != api.OK {
					t.Errorf("%s at %d of %d: %v", what, i, n, e)
				}
			}
		}
	}
	for what, op := range wrongOps() {
		for n := 1; n <= 12; n++ {
			for i := range n {
				ops := many(n, opFrom)
				ops[i] = op
				if e := txn.Check(on(ops...)); e != api.ErrArg {
					t.Errorf("%s at %d of %d: %v", what, i, n, e)
				}
			}
		}
	}
}

// P9.1: up to 12 operations; more are ErrLimit, whatever else is wrong.
func TestCheckMany(t *testing.T) {
	for n := range 13 {
		if e := txn.Check(on(many(n, opThere)...)); e != api.OK {
			t.Errorf("%d operations: %v", n, e)
		}
	}
	for _, n := range []int{13, 14, 24, 255, 256, 268, 1 << 16, 1<<16 + 5} {
		for _, kind := range []int{opThere, 0} {
			for _, name := range []string{"a", "", "A", "abcdefghijklm"} {
				if e := txn.Check(api.Txn{Object: name, Ops: many(n, kind)}); e != api.ErrLimit {
					t.Errorf("%d operations of kind %d on %q: %v", n, kind, name, e)
				}
			}
		}
	}
	for what, op := range wrongOps() {
		if e := txn.Check(on(append(many(12, opThere), op)...)); e != api.ErrLimit {
			t.Errorf("%s behind 12 operations: %v", what, e)
		}
	}
}

// wants asks whether Do makes of an object what is said.
func wants(t *testing.T, what string, o api.Object, there bool, ops []api.Op, want api.Object, exists bool, e api.Errno) {
	t.Helper()
	got, is, err := txn.Do(o, there, on(ops...))
	if !same(got, want) || is != exists || err != e {
		t.Errorf("%s, there %v:\nis   %s %v %v\nwant %s %v %v", what, there, short(text(got)), is, err, short(text(want)), exists, e)
	}
}

// refuses asks whether Do returns an error, and nothing beside it.
func refuses(t *testing.T, what string, o api.Object, there bool, ops []api.Op, e api.Errno) {
	t.Helper()
	wants(t, what, o, there, ops, api.Object{}, false, e)
}

// P9.2: without operations the object is what it was. An object that does not
// exist is empty, whatever is handed in.
func TestDoNothing(t *testing.T) {
	full := api.Object{Data: pattern(64), Seq: 1 << 40}
	for i := range 120 {
		full.Keys = append(full.Keys, api.Key{Name: fmt.Sprintf("k%03d", i), Value: pattern(i)})
	}
	for _, o := range []api.Object{{}, {Data: []byte{}, Keys: []api.Key{}}, sample(), full, {Seq: 5}, {Data: make([]byte, 64)}} {
		for _, ops := range [][]api.Op{nil, {}} {
			wants(t, "no operations", o, true, ops, o, true, api.OK)
			wants(t, "no operations", o, false, ops, api.Object{}, false, api.OK)
		}
	}
}

// P9.2: one operation of each kind, applied to the sample.
func TestDoOne(t *testing.T) {
	change := func(f func(o *api.Object)) api.Object {
		o := sample()
		f(&o)
		return o
	}
	keep := sample()
	for _, c := range []struct {
		op   api.Op
		want api.Object
		is   bool
	}{
		{api.Op{Kind: opThere}, keep, true},
		{api.Op{Kind: opKeyIs, Name: "s001", Data: []byte("one")}, keep, true},
		{api.Op{Kind: opBelow, N: 7}, keep, true},
		{api.Op{Kind: opBelow, N: 8}, keep, true},
		{write(2, "xy"), change(func(o *api.Object) { o.Data = []byte("abxy") }), true},
		{api.Op{Kind: opZero, Off: 1, N: 1}, change(func(o *api.Object) { o.Data = []byte("a\x00c") }), true},
		{api.Op{Kind: opCut, N: 1}, change(func(o *api.Object) { o.Data = []byte("a") }), true},
		{api.Op{Kind: opSet, Data: []byte("x")}, change(func(o *api.Object) { o.Data = []byte("x") }), true},
		{api.Op{Kind: opKey, Name: "s001", Data: []byte("x")}, change(func(o *api.Object) { o.Keys[1].Value = []byte("x") }), true},
		{api.Op{Kind: opDrop, Name: "s001"}, change(func(o *api.Object) { o.Keys = []api.Key{o.Keys[0], o.Keys[2]} }), true},
		{api.Op{Kind: opClone, Name: "s004"}, change(func(o *api.Object) { o.Keys = append(o.Keys, api.Key{Name: "s004", Value: []byte("abc")}) }), true},
		{api.Op{Kind: opSeq, N: 9}, change(func(o *api.Object) { o.Seq = 9 }), true},
		{api.Op{Kind: opRemove}, api.Object{}, false},
		{api.Op{Kind: opFrom, Name: "s000"}, change(func(o *api.Object) { o.Data = []byte("one") }), true},
	} {
		wants(t, fmt.Sprintf("%+v", c.op), sample(), true, []api.Op{c.op}, c.want, c.is, api.OK)
	}
	refuses(t, "OpAbsent", sample(), true, many(1, opAbsent), api.ErrThere)
}

// P9.2: one operation of each kind on an object that does not exist, whatever
// is handed in.
func TestDoOneAbsent(t *testing.T) {
	for _, c := range []struct {
		op   api.Op
		want api.Object
		is   bool
		e    api.Errno
	}{
		{api.Op{Kind: opThere}, api.Object{}, false, api.ErrAbsent},
		{api.Op{Kind: opAbsent}, api.Object{}, false, api.OK},
		{api.Op{Kind: opKeyIs, Name: "s001", Data: []byte("one")}, api.Object{}, false, api.ErrOther},
		{api.Op{Kind: opBelow, N: 1}, api.Object{}, false, api.OK},
		{api.Op{Kind: opBelow}, api.Object{}, false, api.OK},
		{write(1, "x"), api.Object{Data: []byte("\x00x")}, true, api.OK},
		{api.Op{Kind: opZero, Off: 1, N: 1}, api.Object{}, false, api.OK},
		{api.Op{Kind: opCut, N: 1}, api.Object{}, false, api.OK},
		{api.Op{Kind: opSet, Data: []byte("x")}, api.Object{Data: []byte("x")}, true, api.OK},
		{api.Op{Kind: opSet}, api.Object{}, true, api.OK},
		{api.Op{Kind: opKey, Name: "a", Data: []byte("x")}, api.Object{Keys: []api.Key{{Name: "a", Value: []byte("x")}}}, true, api.OK},
		{api.Op{Kind: opDrop, Name: "s001"}, api.Object{}, false, api.OK},
		{api.Op{Kind: opClone, Name: "a"}, api.Object{Keys: []api.Key{{Name: "a"}}}, true, api.OK},
		{api.Op{Kind: opSeq, N: 9}, api.Object{Seq: 9}, true, api.OK},
		{api.Op{Kind: opRemove}, api.Object{}, false, api.OK},
		{api.Op{Kind: opFrom, Name: "s000"}, api.Object{}, false, api.OK},
	} {
		for _, o := range []api.Object{{}, sample()} {
			wants(t, fmt.Sprintf("%+v", c.op), o, false, []api.Op{c.op}, c.want, c.is, c.e)
		}
	}
}

// P9.2: several operations, each on what the one before it left.
func TestDoSeveral(t *testing.T) {
	for _, c := range []struct {
		what  string
		there bool
		ops   []api.Op
		want  api.Object
		is    bool
	}{
		{"the later one counts", true, []api.Op{write(0, "x"), write(0, "y")}, api.Object{Data: []byte("ybc"), Keys: sample().Keys, Seq: 7}, true},
		{"extended, and cut", false, []api.Op{write(3, "x"), {Kind: opCut, N: 2}, write(1, "y")}, api.Object{Data: []byte("\x00y")}, true},
		{"cloned ahead of a write", false, []api.Op{write(0, "ab"), {Kind: opClone, Name: "s001"}, write(0, "c")}, api.Object{Data: []byte("cb"), Keys: []api.Key{{Name: "s001", Value: []byte("ab")}}}, true},
		{"cloned, and back", false, []api.Op{write(0, "ab"), {Kind: opClone, Name: "s001"}, write(0, "c"), {Kind: opFrom, Name: "s001"}, {Kind: opDrop, Name: "s001"}}, api.Object{Data: []byte("ab")}, true},
		{"created, and guarded", false, []api.Op{{Kind: opAbsent}, {Kind: opSeq, N: 3}, {Kind: opThere}}, api.Object{Seq: 3}, true},
		{"removed, and guarded", true, []api.Op{{Kind: opThere}, {Kind: opRemove}, {Kind: opAbsent}}, api.Object{}, false},
		{"removed, and made again", true, []api.Op{{Kind: opRemove}, write(1, "x")}, api.Object{Data: []byte("\x00x")}, true},
		{"made, and removed", false, []api.Op{write(1, "x"), {Kind: opRemove}}, api.Object{}, false},
		{"a key that was set", false, []api.Op{{Kind: opKey, Name: "k", Data: []byte("v")}, {Kind: opKeyIs, Name: "k", Data: []byte("v")}, write(0, "x")}, api.Object{Data: []byte("x"), Keys: []api.Key{{Name: "k", Value: []byte("v")}}}, true},
		{"a number that was set", false, []api.Op{{Kind: opSeq, N: 3}, {Kind: opBelow, N: 4}, write(0, "x")}, api.Object{Data: []byte("x"), Seq: 3}, true},
		{"a number that is too high by then", false, []api.Op{{Kind: opSeq, N: 3}, {Kind: opBelow, N: 3}, write(0, "x")}, api.Object{Seq: 3}, true},
	} {
		wants(t, c.what, sample(), c.there, c.ops, c.want, c.is, api.OK)
	}
}

// P9.2: of 0 to 12 operations all are applied, in their order; 13 are refused.
func TestDoMany(t *testing.T) {
	const letters = "abcdefghijklm"
	for n := range 14 {
		var ops []api.Op
		for i := range n {
			ops = append(ops, write(i, letters[i:i+1]+"!"))
		}
		for _, there := range []bool{false, true} {
			if n == 13 {
				refuses(t, "13 writes", api.Object{}, there, ops, api.ErrLimit)
				continue
			}
			want := api.Object{Data: []byte(letters[:n] + "!")}
			if n == 0 {
				want = api.Object{}
			}
			wants(t, fmt.Sprint(n, " writes"), api.Object{}, there, ops, want, there || n > 0, api.OK)
		}
	}
}

// refusals are operations that an object with data that exists refuses, with
// their errors.
func refusals() map[api.Errno][]api.Op {
	return map[api.Errno][]api.Op{
		api.ErrThere: {{Kind: opAbsent}},
		api.ErrOther: {{Kind: opKeyIs, Name: "nokey"}, {Kind: opKeyIs, Name: "s001", Data: []byte("two")}, {Kind: opKeyIs, Name: "NO"}},
		api.ErrLimit: {
			write(64, "x"), write(65, ""), write(1<<40, ""), {Kind: opSet, Data: pattern(65)}, {Kind: opZero, Off: 64, N: 1}, {Kind: opZero, N: 1 << 40},
			{Kind: opCut, N: 65}, {Kind: opKey}, {Kind: opKey, Name: "NO"}, {Kind: opClone, Name: "NO"}, {Kind: opClone, Name: "\x00"}, {Kind: opFrom, Name: "long"},
		},
	}
}

// atPlaces calls f with transactions of each length, with an operation at each
// place of them; around it are operations that are applied.
func atPlaces(op api.Op, f func(what string, ahead int, ops []api.Op)) {
	for n := 1; n <= 12; n++ {
		for i := range n {
			var ops []api.Op
			for j := range n {
				ops = append(ops, write(j, "x"))
			}
			ops[i] = op
			f(fmt.Sprintf("%d %d %d %q at %d of %d", op.Kind, op.Off, op.N, op.Name, i, n), i, ops)
		}
	}
}

// P9.2: an operation that is refused, wherever it is, leaves nothing but its error.
func TestRefused(t *testing.T) {
	o := sample()
	o.Keys = slices.Insert(o.Keys, 1, api.Key{Name: "long", Value: pattern(65)})
	before := text(o)
	for e, ops := range refusals() {
		for _, op := range ops {
			atPlaces(op, func(what string, _ int, ops []api.Op) { refuses(t, what, o, true, ops, e) })
		}
	}
	atPlaces(api.Op{Kind: opThere}, func(what string, ahead int, ops []api.Op) {
		if ahead == 0 {
			refuses(t, what, o, false, ops, api.ErrAbsent)
		}
		if ahead > 0 {
			ops[ahead-1] = api.Op{Kind: opRemove}
			refuses(t, what+", removed", o, true, ops, api.ErrAbsent)
			refuses(t, what+", removed", o, false, ops, api.ErrAbsent)
		}
	})
	if text(o) != before {
		t.Errorf("the object became %s", text(o))
	}
}

// P9.2: the first operation that is refused counts, and those behind it do not.
func TestRefusedTwice(t *testing.T) {
	bad := map[api.Errno]api.Op{api.ErrThere: {Kind: opAbsent}, api.ErrOther: {Kind: opKeyIs}, api.ErrLimit: write(64, "x")}
	for e, first := range bad {
		for _, second := range bad {
			refuses(t, "two at once", sample(), true, []api.Op{first, second}, e)
			refuses(t, "two among others", sample(), true, []api.Op{write(0, "x"), first, write(0, "y"), second, write(0, "z")}, e)
			refuses(t, "removed between", sample(), true, []api.Op{first, {Kind: opRemove}, {Kind: opThere}, second}, e)
			refuses(t, "ended behind", sample(), true, []api.Op{write(0, "x"), first, {Kind: opBelow}, second}, e)
		}
	}
}

// P9.2: behind OpBelow that says so nothing is applied, so that nothing is
// refused either; what is ahead of it is.
func TestBelow(t *testing.T) {
	o := sample()
	o.Keys = slices.Insert(o.Keys, 1, api.Key{Name: "long", Value: pattern(65)})
	var behind []api.Op
	for _, ops := range refusals() {
		behind = append(behind, ops...)
	}
	for _, n := range []int{0, 1, 6, 7} {
		atPlaces(api.Op{Kind: opBelow, N: n}, func(what string, ahead int, ops []api.Op) {
			want := api.Object{Data: []byte(strings.Repeat("x", ahead) + "abc"[min(ahead, 3):]), Keys: o.Keys, Seq: 7}
			wants(t, what, o, true, ops, want, true, api.OK)
			for _, op := range append(behind, many(1, opRemove)...) {
				for i := ahead + 1; i < len(ops); i++ {
					ops[i] = op
				}
				wants(t, what, o, true, ops, want, true, api.OK)
			}
		})
	}
	for _, n := range []int{8, 9, 1 << 40} {
		atPlaces(api.Op{Kind: opBelow, N: n}, func(what string, ahead int, ops []api.Op) {
			got, is, e := txn.Do(o, true, on(ops...))
			want, isToo, eToo := txn.Do(o, true, on(slices.Delete(slices.Clone(ops), ahead, ahead+1)...))
			if !same(got, want) || is != isToo || e != eToo || e != api.OK {
				t.Errorf("%s: %s %v %v", what, text(got), is, e)
			}
			if ahead+1 < len(ops) {
				ops[len(ops)-1] = api.Op{Kind: opAbsent}
				refuses(t, what, o, true, ops, api.ErrThere)
			}
		})
	}
}

// P9.2: OpBelow on an object that does not exist goes by the number 0, and
// leaves it as it is.
func TestBelowAbsent(t *testing.T) {
	for _, o := range []api.Object{{}, sample(), {Seq: 1 << 40}} {
		wants(t, "below 0", o, false, []api.Op{{Kind: opBelow}, write(0, "x"), {Kind: opThere}}, api.Object{}, false, api.OK)
		wants(t, "below 1", o, false, []api.Op{{Kind: opBelow, N: 1}, write(0, "x"), {Kind: opThere}}, api.Object{Data: []byte("x")}, true, api.OK)
		wants(t, "below 1, absent", o, false, []api.Op{{Kind: opBelow, N: 1}, {Kind: opAbsent}}, api.Object{}, false, api.OK)
		refuses(t, "below 1, refused", o, false, []api.Op{{Kind: opBelow, N: 1}, {Kind: opThere}}, api.ErrAbsent)
	}
	wants(t, "removed, below 1", sample(), true, []api.Op{{Kind: opRemove}, {Kind: opBelow, N: 1}, write(0, "x")}, api.Object{Data: []byte("x")}, true, api.OK)
	wants(t, "removed, below 0", sample(), true, []api.Op{{Kind: opRemove}, {Kind: opBelow}, write(0, "x")}, api.Object{}, false, api.OK)
}

// wrongObjects are not valid, each for one reason.
func wrongObjects() map[string]api.Object {
	keys := func(names ...string) []api.Key {
		var l []api.Key
		for _, n := range names {
			l = append(l, api.Key{Name: n})
		}
		return l
	}
	var tooMany []string
	for i := range 121 {
		tooMany = append(tooMany, fmt.Sprintf("k%03d", i))
	}
	return map[string]api.Object{
		"65 bytes":        {Data: pattern(65)},
		"121 keys":        {Keys: keys(tooMany...)},
		"a key twice":     {Keys: keys("a", "a")},
		"out of order":    {Keys: keys("b", "a")},
		"no name":         {Keys: keys("")},
		"a capital":       {Keys: keys("a", "bC")},
		"13 bytes":        {Keys: keys("abcdefghijklm")},
		"2049 bytes":      {Keys: []api.Key{{Name: "a", Value: pattern(2049)}}},
		"number -1":       {Seq: -1},
		"above 2^40":      {Seq: 1<<40 + 1},
		"greatest number": {Seq: math.MaxInt},
	}
}

// P9.2: an object that is not valid is ErrArg, whether it exists or not,
// whatever the operations are; but the error of Check comes first.
func TestDoWrongObject(t *testing.T) {
	for what, o := range wrongObjects() {
		for _, there := range []bool{false, true} {
			for _, ops := range [][]api.Op{
				nil, many(1, opThere), many(1, opAbsent), many(1, opRemove), {{Kind: opSet}}, {{Kind: opCut, N: 1}}, {{Kind: opBelow}},
				{{Kind: opSeq, N: 1}}, {{Kind: opSet, Data: pattern(65)}}, {{Kind: opRemove}, write(0, "x")}, many(12, opRemove), many(1, 0),
			} {
				refuses(t, fmt.Sprintf("%s, %d operations", what, len(ops)), o, there, ops, api.ErrArg)
			}
			refuses(t, what+", 13 operations", o, there, many(13, opRemove), api.ErrLimit)
			refuses(t, what+", 13 wrong operations", o, there, many(13, 0), api.ErrLimit)
		}
	}
}

// P9.2: a transaction that is not valid changes nothing, and its error comes
// before that of an operation.
func TestDoWrongTxn(t *testing.T) {
	for _, there := range []bool{false, true} {
		for _, ops := range [][]api.Op{nil, {write(0, "x")}, {write(0, "x"), {Kind: opSet, Data: pattern(65)}}, {{Kind: opBelow}}} {
			for _, n := range wrongNames {
				o, is, e := txn.Do(sample(), there, api.Txn{Object: n, Ops: ops})
				if !same(o, api.Object{}) || is || e != api.ErrArg {
					t.Errorf("%q: %s %v %v", short(n), text(o), is, e)
				}
			}
		}
		for what, op := range wrongOps() {
			refuses(t, what, sample(), there, []api.Op{op}, api.ErrArg)
			refuses(t, what+", last", sample(), there, []api.Op{write(0, "x"), op}, api.ErrArg)
			refuses(t, what+", behind one that is refused", sample(), there, []api.Op{write(64, "x"), op}, api.ErrArg)
			refuses(t, what+", behind OpBelow", sample(), there, []api.Op{{Kind: opBelow}, op}, api.ErrArg)
			refuses(t, what+", of 13", sample(), there, append(many(12, opBelow), op), api.ErrLimit)
		}
		refuses(t, "13 behind OpBelow", sample(), there, many(13, opBelow), api.ErrLimit)
	}
}

// fold applies operations by object.Do, one behind the other.
func fold(o api.Object, there bool, ops []api.Op) (api.Object, bool, api.Errno) {
	if !there {
		o = api.Object{}
	}
	if len(ops) == 0 {
		return o, there, api.OK
	}
	next, is, goes, e := object.Do(o, there, ops[0])
	if e != api.OK {
		return api.Object{}, false, e
	}
	if !goes {
		return next, is, api.OK
	}
	return fold(next, is, ops[1:])
}

// P9.2: each transaction does what its operations do, and what it leaves is valid.
func TestDoRandom(t *testing.T) {
	r := random(1)
	ended := map[api.Errno]int{}
	for range 20000 {
		o, there, x := r.object(), r.below(4) > 0, r.txn(r.below(13))
		want, exists, e := fold(o, there, x.Ops)
		got, is, err := txn.Do(o, there, x)
		if !same(got, want) || is != exists || err != e {
			t.Fatalf("%s of %s (%v):\nis   %s %v %v\nwant %s %v %v", told(x), text(o), there, text(got), is, err, text(want), exists, e)
		}
		if object.Check(got) != api.OK {
			t.Fatalf("%s of %s makes %s", told(x), text(o), text(got))
		}
		ended[err]++
	}
	for _, e := range []api.Errno{api.OK, api.ErrLimit, api.ErrAbsent, api.ErrThere, api.ErrOther} {
		if ended[e] < 100 {
			t.Errorf("%v: only %d times", e, ended[e])
		}
	}
}

// P9.4: a transaction from OpBelow n to OpSeq n is applied once.
func TestTwice(t *testing.T) {
	r := random(2)
	applied := 0
	for range 8000 {
		n := pick(&r, 0, 1, 2, 3, 7, 8, 1<<40-1, 1<<40)
		x := api.Txn{Object: "h0", Ops: []api.Op{{Kind: opBelow, N: n}}}
		for range r.below(4) {
			op := r.op()
			for op.Kind == opBelow {
				op = r.op()
			}
			x.Ops = append(x.Ops, op)
		}
		x.Ops = append(x.Ops, api.Op{Kind: opSeq, N: n})
		o, there := r.object(), r.below(4) > 0
		once, is, e := txn.Do(o, there, x)
		if e != api.OK {
			continue
		}
		if is && once.Seq != n && (o.Seq < n || !there) {
			t.Fatalf("%s of %s makes %s", told(x), text(o), text(once))
		}
		if there && o.Seq >= n && !same(once, o) {
			t.Fatalf("%s changes %s to %s", told(x), text(o), text(once))
		}
		if there && o.Seq < n {
			applied++
		}
		twice, isToo, e := txn.Do(once, is, x)
		if !same(once, twice) || is != isToo || e != api.OK {
			t.Fatalf("%s of %s (%v), once and twice:\n%s %v\n%s %v %v", told(x), text(o), there, text(once), is, text(twice), isToo, e)
		}
	}
	if applied < 200 {
		t.Errorf("only %d were applied", applied)
	}
}

// P9.4: what is appended, cloned or guarded once is so once.
func TestTwiceByHand(t *testing.T) {
	for _, c := range []struct {
		what string
		mid  []api.Op
		want api.Object
	}{
		{"nothing", nil, api.Object{Data: []byte("abc"), Seq: 8}},
		{"a write", []api.Op{write(2, "xy")}, api.Object{Data: []byte("abxy"), Seq: 8}},
		{"a clone and a write", []api.Op{{Kind: opClone, Name: "s1"}, write(0, "x")}, api.Object{Data: []byte("xbc"), Keys: []api.Key{{Name: "s1", Value: []byte("abc")}}, Seq: 8}},
		{"a guard of what is written", []api.Op{{Kind: opRemove}, {Kind: opAbsent}, write(1, "x")}, api.Object{Data: []byte("\x00x"), Seq: 8}},
		{"a number below", []api.Op{{Kind: opSeq, N: 3}, write(0, "x")}, api.Object{Data: []byte("xbc"), Seq: 8}},
		{"a guard that holds", []api.Op{{Kind: opBelow, N: 9}, write(0, "x")}, api.Object{Data: []byte("xbc"), Seq: 8}},
	} {
		ops := append(append([]api.Op{{Kind: opBelow, N: 8}}, c.mid...), api.Op{Kind: opSeq, N: 8})
		for _, o := range []api.Object{{Data: []byte("abc"), Seq: 7}, {Data: []byte("abc")}} {
			wants(t, c.what, o, true, ops, c.want, true, api.OK)
		}
		wants(t, c.what+", again", c.want, true, ops, c.want, true, api.OK)
		later := sample()
		later.Seq = 9
		wants(t, c.what+", later", later, true, ops, later, true, api.OK)
	}
}

// The examples of the chapter.
func TestExamples(t *testing.T) {
	o := api.Object{Data: []byte("xyz"), Seq: 3}
	wants(t, "OpBelow 3", o, true, []api.Op{{Kind: opBelow, N: 3}, write(0, "a"), {Kind: opSeq, N: 3}}, o, true, api.OK)
	refuses(t, "OpAbsent", api.Object{}, false, []api.Op{write(0, "a"), {Kind: opAbsent}}, api.ErrThere)
	refuses(t, "OpAbsent", o, true, []api.Op{write(0, "a"), {Kind: opAbsent}}, api.ErrThere)
}
