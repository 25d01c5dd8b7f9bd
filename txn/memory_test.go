package txn_test

import (
	"bytes"
	"testing"

	"terrazzo/api"
	"terrazzo/txn"
)

// memory hands out copies with spare capacity behind them, and knows whether
// all of it is as it was.
type memory struct{ rooms, were [][]byte }

func (m *memory) keep(b []byte) []byte {
	room := append(bytes.Clone(b), "spare capacity"...)
	m.rooms = append(m.rooms, room)
	m.were = append(m.were, bytes.Clone(room))
	return room[:len(b)]
}

func (m *memory) same() bool {
	return bytes.Equal(bytes.Join(m.rooms, nil), bytes.Join(m.were, nil))
}

// spoil changes all that was handed out, and what is behind it.
func (m *memory) spoil() {
	for _, room := range m.rooms {
		spoil(room)
	}
}

// object is o in this memory, and all of its keys with those behind them.
func (m *memory) object(o api.Object) (part api.Object, keys []api.Key) {
	o.Data = m.keep(o.Data)
	keys = append([]api.Key(nil), o.Keys...)
	keys = append(keys, api.Key{Name: "spare", Value: []byte("spare")}, api.Key{}, api.Key{Name: "more"})
	for i, k := range keys {
		keys[i].Value = m.keep(k.Value)
	}
	o.Keys = keys[:len(o.Keys)]
	return o, keys
}

// txn is t in this memory, and all of its operations with those behind them.
func (m *memory) txn(t api.Txn) (part api.Txn, ops []api.Op) {
	ops = append([]api.Op(nil), t.Ops...)
	ops = append(ops, api.Op{Kind: opWrite, Data: []byte("spare")}, api.Op{}, api.Op{Kind: opRemove})
	for i, op := range ops {
		ops[i].Data = m.keep(op.Data)
	}
	t.Ops = ops[:len(t.Ops)]
	return t, ops
}

// spoil changes bytes, and the spare capacity behind them.
func spoil(b []byte) {
	b = b[:cap(b)]
	for i := range b {
		b[i] ^= 0x55
	}
}

// lists are the byte strings of an object.
func lists(o api.Object) [][]byte {
	l := [][]byte{o.Data}
	for _, k := range o.Keys {
		l = append(l, k.Value)
	}
	return l
}

// apart asks whether none of the lists changes with another one.
func apart(t *testing.T, what string, l [][]byte) {
	t.Helper()
	for i, b := range l {
		was := bytes.Clone(b)
		for j, other := range l {
			if i != j {
				spoil(other)
			}
		}
		if !bytes.Equal(b, was) {
			t.Fatalf("%s: list %d changes with another one", what, i)
		}
	}
}

// texts tells all of an object and a transaction, with all that is behind them.
func texts(o api.Object, keys []api.Key, t api.Txn, ops []api.Op) string {
	return text(o) + text(api.Object{Keys: keys}) + told(t) + told(api.Txn{Ops: ops})
}

// keeps asks whether Do leaves what is handed in as it was, also when what it
// returns is changed; and whether that stays when what was handed in is changed.
func keeps(t *testing.T, plain api.Object, there bool, x api.Txn) {
	t.Helper()
	var m memory
	o, keys := m.object(plain)
	x, ops := m.txn(x)
	before := texts(o, keys, x, ops)
	what := told(x)
	check := func(when string) {
		t.Helper()
		if !m.same() || texts(o, keys, x, ops) != before {
			t.Fatalf("%s: %s of %s changes what was handed in", when, what, text(plain))
		}
	}
	txn.Check(x)
	check("Check")
	got, is, e := txn.Do(o, there, x)
	check("Do")
	was := text(got)
	again, isToo, eToo := txn.Do(o, there, x)
	if text(again) != was || is != isToo || e != eToo {
		t.Fatalf("%s of %s: %s %v %v, and then %s %v %v", what, text(plain), was, is, e, text(again), isToo, eToo)
	}
	apart(t, what, lists(again))
	clear(again.Keys[:cap(again.Keys)])
	check("a change of the result")
	m.spoil()
	clear(keys)
	clear(ops)
	if text(got) != was {
		t.Fatalf("%s of %s keeps what was handed in", what, text(plain))
	}
}

// P9.2: all results are in new memory, and what is handed in stays as it was,
// also where an operation is refused.
func TestMemory(t *testing.T) {
	o := sample()
	for _, there := range []bool{false, true} {
		for _, plain := range []api.Object{{}, o, {Data: pattern(64)}} {
			keeps(t, plain, there, on())
			for kind := range 16 {
				op := api.Op{Kind: kind, N: 2, Name: "s001", Data: []byte("one")}
				keeps(t, plain, there, on(op))
				keeps(t, plain, there, on(write(1, "x"), op))
				keeps(t, plain, there, on(op, write(1, "x"), api.Op{Kind: opClone, Name: "z"}))
				keeps(t, plain, there, on(write(1, "x"), op, api.Op{Kind: opAbsent}))
			}
			keeps(t, plain, there, on(many(13, opRemove)...))
		}
		for _, plain := range wrongObjects() {
			keeps(t, plain, there, on(write(0, "x")))
		}
	}
	r := random(7)
	for range 1500 {
		keeps(t, r.object(), r.below(4) > 0, r.txn(r.below(5)))
	}
}

// P9.2: Do takes operations whose Data is the object's own, or one another's.
func TestSharedMemory(t *testing.T) {
	o := sample()
	all := o.Data
	ops := []api.Op{{Kind: opWrite, Off: 1, Data: all}, {Kind: opKey, Name: "a", Data: all[1:]}, {Kind: opWrite, Data: all[2:]}, {Kind: opKey, Name: "b", Data: all}}
	got, is, e := txn.Do(o, true, on(ops...))
	want := `"cabc" 7 "a"="bc" "b"="abc" "head"="H" "s001"="one" "s003"=""`
	if text(got) != want || !is || e != api.OK || text(o) != text(sample()) {
		t.Fatalf("%s %v %v, want %s", text(got), is, e, want)
	}
	apart(t, "shared memory", append(lists(got), all, o.Keys[1].Value))
}

// P9.3: Pack and Unpack neither change nor keep what is handed in.
func TestPackMemory(t *testing.T) {
	r := random(8)
	for range 500 {
		var m memory
		x, ops := m.txn(r.txn(r.below(4)))
		before := texts(api.Object{}, nil, x, ops)
		want := encoded(x)
		b := txn.Pack(x)
		spoil(txn.Pack(x))
		if !m.same() || texts(api.Object{}, nil, x, ops) != before || !bytes.Equal(b, want) {
			t.Fatalf("Pack changes %s", told(x))
		}
		m.spoil()
		if !bytes.Equal(b, want) {
			t.Fatalf("Pack keeps %s", told(x))
		}
		unpackKeeps(t, b)
	}
}

// dataOf is the Data of each operation.
func dataOf(x api.Txn) [][]byte {
	var l [][]byte
	for _, op := range x.Ops {
		l = append(l, op.Data)
	}
	return l
}

// unpackKeeps asks whether Unpack neither changes nor keeps b, and whether no
// two lists of what it returns share memory.
func unpackKeeps(t *testing.T, b []byte) {
	t.Helper()
	for _, n := range []int{len(b), len(b) - 1, 0} {
		var m memory
		part := m.keep(b[:n])
		x, e := txn.Unpack(part)
		again, _ := txn.Unpack(part)
		apart(t, "Unpack", dataOf(again))
		clear(again.Ops[:cap(again.Ops)])
		if !m.same() {
			t.Fatalf("Unpack changes %q", short(string(b)))
		}
		was := told(x)
		m.spoil()
		if told(x) != was || (e == api.OK) != (n == len(b)) {
			t.Fatalf("Unpack keeps %q: %v", short(string(b)), e)
		}
	}
}
