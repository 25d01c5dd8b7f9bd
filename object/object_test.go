package object_test

import (
	"bytes"
	"fmt"
	"maps"
	"math"
	"slices"
	"strconv"
	"strings"
	"testing"

	"terrazzo/api"
	"terrazzo/object"
)

// The numbers of the kinds, in the order of the table.
const (
	opThere = iota + 1
	opAbsent
	opKeyIs
	opBelow
	opWrite
	opZero
	opCut
	opSet
	opKey
	opDrop
	opClone
	opSeq
	opRemove
	opFrom
)

// otherKinds are some that are none of the fourteen.
var otherKinds = []int{math.MinInt, -14, -1, 0, 15, 16, 255, 256 + opWrite, 1<<32 + opSet, math.MaxInt}

// names are valid in part; validNames says which.
var (
	validNames   = []string{"a", "s", "t", "0", "9", ".", "z", "head", "s000", "s001", "s002", "s01", "t0", "e000000007", "abcdefghijk", "abcdefghijkl", "zzzzzzzzzzzz"}
	invalidNames = []string{"", "abcdefghijklm", "zzzzzzzzzzzzz", "S", "sA", "s-1", "s 1", "s/", "s:", "s`", "s{", "s\x00", "\x00", "\xff", "s\xff", "é", strings.Repeat("a", 500)}
)

// pattern is n bytes that are not zero, and not all the same.
func pattern(n int) []byte {
	b := make([]byte, n)
	for i := range b {
		b[i] = byte(i*7+i>>8)%251 + 1
	}
	return b
}

// manyKeys are n keys whose names increase, and between which others fit.
func manyKeys(n int) []api.Key {
	keys := make([]api.Key, n)
	for i := range keys {
		keys[i] = api.Key{Name: fmt.Sprintf("k%03d", 2*i), Value: pattern(i % 5)}
	}
	return keys
}

// named is a key for each name.
func named(names ...string) []api.Key {
	var keys []api.Key
	for i, n := range names {
		keys = append(keys, api.Key{Name: n, Value: []byte(strconv.Itoa(i))})
	}
	return keys
}

// sample is an object with data, keys and a number.
func sample() api.Object {
	return api.Object{Data: []byte("abc"), Keys: []api.Key{{Name: "head", Value: []byte("H")}, {Name: "s001", Value: []byte("one")}, {Name: "s003"}}, Seq: 7}
}

// cloned is o in new memory.
func cloned(o api.Object) api.Object {
	o.Data = append([]byte(nil), o.Data...)
	o.Keys = append([]api.Key(nil), o.Keys...)
	for i, k := range o.Keys {
		o.Keys[i].Value = append([]byte(nil), k.Value...)
	}
	return o
}

// equal reports whether a and b have the same contents; nil and empty lists
// are the same.
func equal(a, b api.Object) bool {
	if string(a.Data) != string(b.Data) || len(a.Keys) != len(b.Keys) || a.Seq != b.Seq {
		return false
	}
	for i, k := range a.Keys {
		if k.Name != b.Keys[i].Name || string(k.Value) != string(b.Keys[i].Value) {
			return false
		}
	}
	return true
}

// text tells all of an object.
func text(o api.Object) string {
	s := fmt.Sprintf("%q %d", o.Data, o.Seq)
	for _, k := range o.Keys {
		s += fmt.Sprintf(" %q=%q", k.Name, k.Value)
	}
	return s
}

// random yields numbers that are the same in every run.
type random uint64

func (r *random) below(n int) int {
	*r = *r*6364136223846793005 + 1442695040888963407
	return int(uint64(*r) >> 33 % uint64(n))
}

// pick is one of a list.
func pick[T any](r *random, of ...T) T { return of[r.below(len(of))] }

// object is a valid one.
func (r *random) object() api.Object {
	o := api.Object{Data: pattern(pick(r, 0, 1, 5, 63, 64)), Seq: pick(r, 0, 1, 7, 1<<40-1, 1<<40)}
	for _, n := range slices.Sorted(slices.Values(validNames)) {
		if r.below(3) == 0 {
			o.Keys = append(o.Keys, api.Key{Name: n, Value: pattern(pick(r, 0, 1, 64, 65, 2048))})
		}
	}
	return o
}

// op is of one of the fourteen kinds; one in four of its fields is out of range.
func (r *random) op() api.Op {
	op := api.Op{
		Kind: 1 + r.below(14),
		Off:  pick(r, 0, 1, 3, 31, 63, 64),
		N:    pick(r, 0, 1, 2, 7, 8, 32, 64),
		Name: pick(r, validNames...),
		Data: pattern(pick(r, 0, 1, 2, 32, 64)),
	}
	switch r.below(16) {
	case 0:
		op.Off = pick(r, math.MinInt, -64, -1, 65, 1<<40, math.MaxInt-1, math.MaxInt)
	case 1:
		op.N = pick(r, math.MinInt, -1, 65, 1<<40, 1<<40+1, math.MaxInt)
	case 2:
		op.Name = pick(r, invalidNames...)
	case 3:
		op.Data = pattern(pick(r, 65, 2048, 2049))
	}
	return op
}

// isValidName follows the words of the chapter.
func isValidName(name string) bool {
	return len(name) > 0 && len(name) < 13 && strings.Trim(name, "abcdefghijklmnopqrstuvwxyz0123456789.") == "" &&
		!slices.ContainsFunc([]byte(name), func(c byte) bool {
			return !bytes.Contains([]byte("abcdefghijklmnopqrstuvwxyz0123456789."), []byte{c})
		})
}

// isValid follows the words of the chapter.
func isValid(o api.Object) bool {
	for i, k := range o.Keys {
		if !isValidName(k.Name) || len(k.Value) > 2048 || i > 0 && o.Keys[i-1].Name >= k.Name {
			return false
		}
	}
	return len(o.Data) <= 64 && len(o.Keys) <= 120 && o.Seq >= 0 && o.Seq <= 1<<40
}

// model is an object as the chapter tells of it: with its keys in no order.
type model struct {
	there bool
	data  string
	keys  map[string]string
	seq   int
}

func modelOf(o api.Object, there bool) model {
	m := model{there: there, keys: map[string]string{}}
	if there {
		m.data, m.seq = string(o.Data), o.Seq
		for _, k := range o.Keys {
			m.keys[k.Name] = string(k.Value)
		}
	}
	return m
}

// object is the object that the model stands for.
func (m model) object() api.Object {
	o := api.Object{Data: []byte(m.data), Seq: m.seq}
	for _, n := range slices.Sorted(maps.Keys(m.keys)) {
		o.Keys = append(o.Keys, api.Key{Name: n, Value: []byte(m.keys[n])})
	}
	return o
}

// at is the value of the first key that matches, and whether there is one.
func (m model) at(name string) (string, bool) {
	for _, n := range slices.Sorted(maps.Keys(m.keys)) {
		if name != "" && n[0] == name[0] && strings.Compare(n, name) >= 0 {
			return m.keys[n], true
		}
	}
	return m.data, false
}

// setKey is OpKey.
func (m *model) setKey(name, value string) api.Errno {
	_, has := m.keys[name]
	if !isValidName(name) || len(value) > 2048 || len(m.keys) == 120 && !has {
		return api.ErrLimit
	}
	m.there = true
	m.keys[name] = value
	return api.OK
}

// setData is OpWrite, OpZero, OpCut, OpSet or OpFrom.
func (m *model) setData(op api.Op) api.Errno {
	bad := func(n int) bool { return n < 0 || n > 64 }
	fill := func(n int) string { return strings.Repeat("\x00", max(n, 0)) }
	tail := func(s string, from int) string { return s[min(from, len(s)):] }
	switch op.Kind {
	case opWrite:
		if bad(op.Off) || bad(op.Off+len(op.Data)) {
			return api.ErrLimit
		}
		m.there = true
		long := m.data + fill(op.Off-len(m.data))
		m.data = long[:op.Off] + string(op.Data) + tail(long, op.Off+len(op.Data))
	case opZero:
		if bad(op.Off) || bad(op.N) || bad(op.Off+op.N) {
			return api.ErrLimit
		}
		zeroed := []byte(m.data)
		for i := range zeroed {
			if i >= op.Off && i < op.Off+op.N {
				zeroed[i] = 0
			}
		}
		m.data = string(zeroed)
	case opCut:
		if bad(op.N) {
			return api.ErrLimit
		}
		m.data = m.data[:min(op.N, len(m.data))]
	case opSet:
		if bad(len(op.Data)) {
			return api.ErrLimit
		}
		m.there, m.data = true, string(op.Data)
	case opFrom:
		was, _ := m.at(op.Name)
		if bad(len(was)) {
			return api.ErrLimit
		}
		m.data = was
	}
	return api.OK
}

// do applies an operation of one of the fourteen kinds, and tells the third
// result and the error.
func (m *model) do(op api.Op) (bool, api.Errno) {
	e := api.OK
	on := true
	switch op.Kind {
	case opThere:
		if !m.there {
			e = api.ErrAbsent
		}
	case opAbsent:
		if m.there {
			e = api.ErrThere
		}
	case opKeyIs:
		if v, ok := m.keys[op.Name]; !ok || v != string(op.Data) {
			e = api.ErrOther
		}
	case opBelow:
		on = m.seq < op.N
	case opKey:
		e = m.setKey(op.Name, string(op.Data))
	case opDrop:
		delete(m.keys, op.Name)
	case opClone:
		if _, ok := m.at(op.Name); !ok {
			e = m.setKey(op.Name, m.data)
		}
	case opSeq:
		if op.N < 0 || op.N > 1<<40 {
			e = api.ErrLimit
			break
		}
		m.there, m.seq = true, op.N
	case opRemove:
		*m = model{keys: map[string]string{}}
	default:
		e = m.setData(op)
	}
	return on && e == api.OK, e
}

// follows asks whether Do does to o what the model does, and returns what Do did.
func follows(t *testing.T, o api.Object, there bool, op api.Op) (api.Object, bool, api.Errno) {
	t.Helper()
	m := modelOf(o, there)
	on, e := m.do(op)
	want := m.object()
	if e != api.OK {
		m.there, want = false, api.Object{}
	}
	got, is, goes, err := object.Do(o, there, op)
	if !equal(got, want) || is != m.there || goes != on || err != e {
		t.Fatalf("%+v of %s (%v):\nis   %s %v %v %v\nwant %s %v %v %v", op, text(o), there, text(got), is, goes, err, text(want), m.there, on, e)
	}
	return got, is, err
}

// P8.2: the kinds are numbered in the order of the table.
func TestNumbers(t *testing.T) {
	kinds := []int{api.OpThere, api.OpAbsent, api.OpKeyIs, api.OpBelow, api.OpWrite, api.OpZero, api.OpCut, api.OpSet, api.OpKey, api.OpDrop, api.OpClone, api.OpSeq, api.OpRemove, api.OpFrom}
	for i, k := range kinds {
		if k != i+1 {
			t.Errorf("kind %d has the number %d", i+1, k)
		}
	}
	if opFrom != len(kinds) {
		t.Errorf("%d kinds, want %d", len(kinds), opFrom)
	}
}

// rightObjects are valid, at the edges too.
func rightObjects() map[string]api.Object {
	return map[string]api.Object{
		"empty":        {},
		"empty lists":  {Data: []byte{}, Keys: []api.Key{}},
		"one byte":     {Data: pattern(1)},
		"63 bytes":     {Data: pattern(63)},
		"64 bytes":     {Data: pattern(64)},
		"zero bytes":   {Data: make([]byte, 64)},
		"one key":      {Keys: manyKeys(1)},
		"119 keys":     {Keys: manyKeys(119)},
		"120 keys":     {Keys: manyKeys(120)},
		"prefixes":     {Keys: named("a", "aa", "aaa", "ab", "b")},
		"bytes":        {Keys: named(".", "..", "0", "9", "a", "a.", "a0", "aa", "z")},
		"12 bytes":     {Keys: named("abcdefghijkl", "zzzzzzzzzzzz")},
		"no value":     {Keys: []api.Key{{Name: "a"}, {Name: "b", Value: []byte{}}}},
		"2048 bytes":   {Keys: []api.Key{{Name: "a", Value: pattern(2048)}, {Name: "b", Value: pattern(2048)}}},
		"number 1":     {Seq: 1},
		"number 2^40":  {Seq: 1 << 40},
		"below 2^40":   {Seq: 1<<40 - 1},
		"all at once":  {Data: pattern(64), Keys: manyKeys(120), Seq: 1 << 40},
		"as a sample":  sample(),
		"only a value": {Keys: []api.Key{{Name: "s001", Value: pattern(65)}}},
	}
}

// wrongObjects are not valid, each for one reason.
func wrongObjects() map[string]api.Object {
	wrong := map[string]api.Object{
		"65 bytes":        {Data: pattern(65)},
		"zero bytes":      {Data: make([]byte, 65)},
		"1000 bytes":      {Data: pattern(1000)},
		"121 keys":        {Keys: manyKeys(121)},
		"300 keys":        {Keys: manyKeys(300)},
		"twice":           {Keys: named("a", "a")},
		"twice at end":    {Keys: named("a", "b", "c", "c")},
		"twice, apart":    {Keys: named("a", "b", "a")},
		"out of order":    {Keys: named("b", "a")},
		"last too low":    {Keys: named("a", "c", "d", "b")},
		"first too high":  {Keys: named("z", "a", "b")},
		"prefix behind":   {Keys: named("aa", "a")},
		"digit behind":    {Keys: named("a", "0")},
		"point behind":    {Keys: named("0", ".")},
		"2049 bytes":      {Keys: []api.Key{{Name: "a", Value: pattern(2049)}}},
		"2049, last":      {Keys: []api.Key{{Name: "a"}, {Name: "b"}, {Name: "c", Value: pattern(2049)}}},
		"2049, first":     {Keys: []api.Key{{Name: "a", Value: pattern(2049)}, {Name: "b"}}},
		"number -1":       {Seq: -1},
		"above 2^40":      {Seq: 1<<40 + 1},
		"greatest number": {Seq: math.MaxInt},
		"least number":    {Seq: math.MinInt},
	}
	for _, n := range invalidNames {
		wrong[fmt.Sprintf("name %q", n)] = api.Object{Keys: named(n)}
	}
	wrong["no name, first"] = api.Object{Keys: named("", "a")}
	wrong["no name, last"] = api.Object{Keys: named("a", "")}
	wrong["capital, first"] = api.Object{Keys: named("A", "a")}
	wrong["brace, last"] = api.Object{Keys: named("a", "{")}
	wrong["13 bytes, among"] = api.Object{Keys: named("a", "abcdefghijklm", "b")}
	return wrong
}

// P8.1: Check.
func TestCheck(t *testing.T) {
	for what, o := range rightObjects() {
		if e := object.Check(o); e != api.OK {
			t.Errorf("%s: %v", what, e)
		}
	}
	for what, o := range wrongObjects() {
		if e := object.Check(o); e != api.ErrArg {
			t.Errorf("%s: %v", what, e)
		}
	}
}

// P8.1: each byte, at each place of a name, is valid or not.
func TestCheckBytes(t *testing.T) {
	for c := range 256 {
		want := api.ErrArg
		if c >= 'a' && c <= 'z' || c >= '0' && c <= '9' || c == '.' {
			want = api.OK
		}
		one := string([]byte{byte(c)})
		for _, name := range []string{one, one + "b", "b" + one, "b" + one + "c", "abcdefghijk" + one} {
			if e := object.Check(api.Object{Keys: named(name)}); e != want {
				t.Errorf("%q: %v", name, e)
			}
		}
	}
}

// P8.1: each length of names, values and data, each number of keys.
func TestCheckLengths(t *testing.T) {
	for n := range 130 {
		for what, o := range map[string]api.Object{
			"name": {Keys: named(strings.Repeat("a", n))},
			"data": {Data: make([]byte, n)},
			"keys": {Keys: manyKeys(n)},
		} {
			least, most := 0, map[string]int{"name": 12, "data": 64, "keys": 120}[what]
			if what == "name" {
				least = 1
			}
			if ok := object.Check(o) == api.OK; ok != (n >= least && n <= most) {
				t.Errorf("%d of %s: %v", n, what, ok)
			}
		}
	}
}

// P8.1: one change of a valid object makes it invalid or not, by the words of
// the chapter.
func TestCheckChanged(t *testing.T) {
	r := random(1)
	valid := 0
	for range 4000 {
		o := r.object()
		if i := r.below(len(o.Keys) + 1); i < len(o.Keys) {
			k := &o.Keys[i]
			switch r.below(3) {
			case 0:
				k.Name = pick(&r, append(validNames, invalidNames...)...)
			case 1:
				k.Value = pattern(pick(&r, 0, 2047, 2048, 2049, 2050))
			case 2:
				o.Keys[r.below(len(o.Keys))].Name = k.Name
			}
		} else {
			o.Data = pattern(pick(&r, 0, 62, 63, 64, 65, 66))
			o.Seq = pick(&r, -1, 0, 1<<40-1, 1<<40, 1<<40+1)
		}
		want := api.ErrArg
		if isValid(o) {
			want = api.OK
			valid++
		}
		if e := object.Check(o); e != want {
			t.Fatalf("%s: %v, want %v", text(o), e, want)
		}
	}
	if valid < 1000 || valid > 3000 {
		t.Errorf("%d of the objects are valid", valid)
	}
}

// P8.1: Clone, also of objects that are not valid.
func TestClone(t *testing.T) {
	all := slices.Concat(slices.Collect(maps.Values(rightObjects())), slices.Collect(maps.Values(wrongObjects())))
	for _, o := range all {
		before := cloned(o)
		c := object.Clone(o)
		if !equal(c, before) || !object.Same(o, c) {
			t.Errorf("%s is %s", text(before), text(c))
		}
		spoil(c)
		if !equal(o, before) {
			t.Errorf("%s changes with its clone", text(before))
		}
	}
}

// P8.1: Same looks at each field.
func TestSame(t *testing.T) {
	changes := map[string]func(o *api.Object){
		"a byte":           func(o *api.Object) { o.Data[1] = 'x' },
		"a byte less":      func(o *api.Object) { o.Data = o.Data[:2] },
		"a zero byte more": func(o *api.Object) { o.Data = append(o.Data, 0) },
		"no data":          func(o *api.Object) { o.Data = nil },
		"a name":           func(o *api.Object) { o.Keys[1].Name = "s002" },
		"a longer name":    func(o *api.Object) { o.Keys[1].Name = "s001a" },
		"the last name":    func(o *api.Object) { o.Keys[2].Name = "s004" },
		"a value":          func(o *api.Object) { o.Keys[1].Value[2] = 'x' },
		"a shorter value":  func(o *api.Object) { o.Keys[1].Value = []byte("on") },
		"no value":         func(o *api.Object) { o.Keys[0].Value = nil },
		"the last value":   func(o *api.Object) { o.Keys[2].Value = []byte{0} },
		"a key less":       func(o *api.Object) { o.Keys = o.Keys[:2] },
		"a key less ahead": func(o *api.Object) { o.Keys = o.Keys[1:] },
		"a key more":       func(o *api.Object) { o.Keys = append(o.Keys, api.Key{}) },
		"no keys":          func(o *api.Object) { o.Keys = nil },
		"another order":    func(o *api.Object) { o.Keys[0], o.Keys[1] = o.Keys[1], o.Keys[0] },
		"a number":         func(o *api.Object) { o.Seq = 8 },
		"the number's top": func(o *api.Object) { o.Seq |= 1 << 40 },
	}
	a, b := sample(), sample()
	if !object.Same(a, b) || !object.Same(a, a) {
		t.Error("Same of the same is false")
	}
	for what, change := range changes {
		c := sample()
		change(&c)
		if object.Same(a, c) || object.Same(c, a) {
			t.Errorf("%s: Same", what)
		}
		if !object.Same(c, cloned(c)) {
			t.Errorf("%s: not the same as itself", what)
		}
	}
	b.Keys[2].Value = []byte{}
	if !object.Same(a, b) || !object.Same(api.Object{}, api.Object{Data: []byte{}, Keys: []api.Key{}}) {
		t.Error("nil and empty lists are not the same")
	}
}

// P8.1: Get returns the value of the first key with just this name.
func TestGet(t *testing.T) {
	o := api.Object{Data: []byte("data"), Keys: []api.Key{
		{Name: "s003", Value: []byte("three")},
		{Name: "a", Value: []byte("first")},
		{Name: "a", Value: []byte("second")},
		{Name: "e"},
		{Name: "S!", Value: pattern(3000)},
		{Name: "b", Value: []byte{0}},
	}}
	for name, want := range map[string]string{"s003": "three", "a": "first", "e": "", "S!": string(pattern(3000)), "b": "\x00"} {
		if got, ok := object.Get(o, name); !ok || string(got) != want {
			t.Errorf("%q: %q, %v", name, got, ok)
		}
	}
	for _, name := range []string{"", "s", "s00", "s002", "s0030", "A", "c", "zzzzzzzzzzzzzz", "a\x00"} {
		if got, ok := object.Get(o, name); ok || len(got) > 0 {
			t.Errorf("%q: %q, %v", name, got, ok)
		}
		if got, ok := object.Get(api.Object{Data: []byte("data")}, name); ok || len(got) > 0 {
			t.Errorf("no keys, %q: %q, %v", name, got, ok)
		}
	}
	o.Keys = append(o.Keys, api.Key{Value: []byte("none")})
	if got, ok := object.Get(o, ""); !ok || string(got) != "none" {
		t.Errorf("the empty name: %q, %v", got, ok)
	}
}

// P8.1: Read, for each part of data of each length, also too long ones.
func TestRead(t *testing.T) {
	for _, size := range []int{0, 1, 2, 31, 63, 64, 65, 100} {
		o := api.Object{Data: pattern(size), Keys: named("a", "s001"), Seq: 5}
		long := append(pattern(size), make([]byte, 64)...)
		for off := -2; off <= 66; off++ {
			for n := -2; n <= 66; n++ {
				var want []byte
				if off >= 0 && n >= 0 && off+n <= 64 {
					want = long[off : off+n]
				}
				if got := object.Read(o, off, n); !bytes.Equal(got, want) {
					t.Fatalf("%d bytes of %d from %d on: %v, want %v", n, size, off, got, want)
				}
			}
		}
	}
}

// P8.1: Read of what is far away is empty.
func TestReadFar(t *testing.T) {
	o := api.Object{Data: pattern(64)}
	far := []int{math.MinInt, math.MinInt + 1, -1 << 40, -64, -1, 0, 1, 64, 65, 1 << 32, 1<<63 - 64, math.MaxInt - 1, math.MaxInt}
	for _, off := range far {
		for _, n := range far {
			got := object.Read(o, off, n)
			in := off >= 0 && off <= 64 && n >= 0 && n <= 64 && off+n <= 64
			if in && !bytes.Equal(got, o.Data[off:off+n]) || !in && len(got) > 0 {
				t.Errorf("%d bytes from %d on: %v", n, off, got)
			}
		}
	}
}

// P8.1: At takes the first key of the list that matches, or the data.
func TestAt(t *testing.T) {
	o := api.Object{Data: []byte("now"), Keys: []api.Key{
		{Name: ""}, {Name: "head"}, {Name: "s005", Value: []byte("5")}, {Name: "s001", Value: []byte("1")}, {Name: "s003", Value: []byte("3")},
		{Name: "t", Value: []byte("t")}, {Name: "\xff\x01", Value: []byte("ff")}, {Name: "S!", Value: []byte("S")},
	}}
	for name, want := range map[string]string{
		"": "now", "a": "now", "head": "", "hea": "", "h": "", "heads": "now", "headz": "now", "hf": "now",
		"s": "5", "s.": "5", "s001": "5", "s002": "5", "s005": "5", "s0050": "now", "s006": "now", "s\xff": "now", "s!": "5", "r": "now",
		"t": "t", "t0": "now", "t\x00": "now", "u": "now", "\xff": "ff", "\xff\x01": "ff", "\xff\x02": "now", "\x00": "now", "S": "S", "S\"": "now",
	} {
		if got := object.At(o, name); string(got) != want {
			t.Errorf("%q: %q, want %q", name, got, want)
		}
	}
	if got := object.At(api.Object{Keys: named("s001")}, "t001"); len(got) > 0 {
		t.Errorf("no data: %q", got)
	}
	if got := object.At(api.Object{Data: pattern(100)}, "s"); !bytes.Equal(got, pattern(100)) {
		t.Errorf("data of 100 bytes: %q", got)
	}
}

// P8.1: Get and At, for all names and keys of one or two of a few bytes.
func TestGetAndAtOfPairs(t *testing.T) {
	var short []string
	for _, a := range []string{"", "a", "b", "z"} {
		for _, b := range []string{"", "a", "b"} {
			short = append(short, a+b)
		}
	}
	for _, first := range short {
		for _, second := range short {
			o := api.Object{Data: []byte("data"), Keys: named(first, second)}
			for _, name := range short {
				at, get := "data", ""
				for i := 1; i >= 0; i-- {
					n := o.Keys[i].Name
					if name != "" && n != "" && n[0] == name[0] && n >= name {
						at = strconv.Itoa(i)
					}
					if n == name {
						get = strconv.Itoa(i)
					}
				}
				if got := object.At(o, name); string(got) != at {
					t.Errorf("At of %q among %q and %q: %q, want %q", name, first, second, got, at)
				}
				if got, ok := object.Get(o, name); string(got) != get || ok != (get != "") {
					t.Errorf("Get of %q among %q and %q: %q, want %q", name, first, second, got, get)
				}
			}
		}
	}
}

// all is an operation with each field set.
func all(kind int) api.Op {
	return api.Op{Kind: kind, Off: 1, N: 2, Name: "s002", Data: []byte("xy")}
}

// fails asks whether Do returns an error, and nothing else.
func fails(t *testing.T, what string, o api.Object, there bool, op api.Op, want api.Errno) {
	t.Helper()
	if got, is, on, e := object.Do(o, there, op); e != want || is || on || !equal(got, api.Object{}) {
		t.Errorf("%s: %s %v %v %v, want %v alone", what, text(got), is, on, e, want)
	}
}

// P8.2: kinds that are none of the fourteen.
func TestOtherKinds(t *testing.T) {
	for _, k := range otherKinds {
		for _, there := range []bool{false, true} {
			fails(t, fmt.Sprint("kind ", k), sample(), there, all(k), api.ErrArg)
			fails(t, fmt.Sprint("kind ", k), api.Object{}, there, api.Op{Kind: k}, api.ErrArg)
		}
	}
}

// P8.2: objects that are not valid, whatever else there is to refuse.
func TestDoInvalid(t *testing.T) {
	for what, o := range wrongObjects() {
		for kind := 1; kind <= 14; kind++ {
			for _, op := range []api.Op{{Kind: kind}, all(kind), {Kind: kind, Off: -1, N: -1, Data: pattern(3000)}} {
				fails(t, what, o, false, op, api.ErrArg)
				fails(t, what, o, true, op, api.ErrArg)
			}
		}
	}
}

// step is one row of a table of operations: on the sample, what becomes of it.
type step struct {
	what string
	op   api.Op
	want func(o *api.Object)
	e    api.Errno
}

// keep leaves the sample as it is.
func keep(*api.Object) {}

// data makes these the data.
func data(s string) func(o *api.Object) { return func(o *api.Object) { o.Data = []byte(s) } }

// key gives the sample's keys one more at a place.
func key(at int, name, value string) func(o *api.Object) {
	return func(o *api.Object) { o.Keys = slices.Insert(o.Keys, at, api.Key{Name: name, Value: []byte(value)}) }
}

// value gives one of the sample's keys a value.
func value(at int, value string) func(o *api.Object) {
	return func(o *api.Object) { o.Keys[at].Value = []byte(value) }
}

// runSteps asks of each row what it does to the sample.
func runSteps(t *testing.T, steps []step) {
	t.Helper()
	for _, s := range steps {
		if s.e != api.OK {
			fails(t, s.what, sample(), true, s.op, s.e)
			continue
		}
		want := sample()
		s.want(&want)
		if got, is, on, e := object.Do(sample(), true, s.op); !equal(got, want) || !is || !on || e != api.OK {
			t.Errorf("%s: %s %v %v %v, want %s", s.what, text(got), is, on, e, text(want))
		}
	}
}

// P8.2: OpThere, OpAbsent and OpKeyIs.
func TestGuards(t *testing.T) {
	runSteps(t, []step{
		{"there", api.Op{Kind: opThere}, keep, api.OK},
		{"absent", api.Op{Kind: opAbsent}, nil, api.ErrThere},
		{"first key", api.Op{Kind: opKeyIs, Name: "head", Data: []byte("H")}, keep, api.OK},
		{"key", api.Op{Kind: opKeyIs, Name: "s001", Data: []byte("one")}, keep, api.OK},
		{"empty value", api.Op{Kind: opKeyIs, Name: "s003"}, keep, api.OK},
		{"empty value, not nil", api.Op{Kind: opKeyIs, Name: "s003", Data: []byte{}}, keep, api.OK},
		{"other value", api.Op{Kind: opKeyIs, Name: "s001", Data: []byte("two")}, nil, api.ErrOther},
		{"shorter value", api.Op{Kind: opKeyIs, Name: "s001", Data: []byte("on")}, nil, api.ErrOther},
		{"longer value", api.Op{Kind: opKeyIs, Name: "s001", Data: []byte("one\x00")}, nil, api.ErrOther},
		{"no value", api.Op{Kind: opKeyIs, Name: "s001"}, nil, api.ErrOther},
		{"zero byte", api.Op{Kind: opKeyIs, Name: "s003", Data: []byte{0}}, nil, api.ErrOther},
		{"no key, ahead", api.Op{Kind: opKeyIs, Name: "a"}, nil, api.ErrOther},
		{"no key, among", api.Op{Kind: opKeyIs, Name: "s002"}, nil, api.ErrOther},
		{"no key, behind", api.Op{Kind: opKeyIs, Name: "t"}, nil, api.ErrOther},
		{"begins so", api.Op{Kind: opKeyIs, Name: "s00", Data: []byte("one")}, nil, api.ErrOther},
		{"value of the key behind", api.Op{Kind: opKeyIs, Name: "s000", Data: []byte("one")}, nil, api.ErrOther},
		{"empty name", api.Op{Kind: opKeyIs}, nil, api.ErrOther},
		{"the data's", api.Op{Kind: opKeyIs, Data: []byte("abc")}, nil, api.ErrOther},
		{"a name that may not be", api.Op{Kind: opKeyIs, Name: "S001", Data: []byte("one")}, nil, api.ErrOther},
	})
}

// P8.2: OpBelow.
func TestBelow(t *testing.T) {
	for _, seq := range []int{0, 1, 7, 1 << 40} {
		for _, n := range []int{math.MinInt, -1, 0, 1, 2, 6, 7, 8, 1 << 40, 1<<40 + 1, math.MaxInt} {
			for _, there := range []bool{false, true} {
				o := sample()
				o.Seq = seq
				want, number := o, seq
				if !there {
					want, number = api.Object{}, 0
				}
				got, is, on, e := object.Do(o, there, api.Op{Kind: opBelow, N: n})
				if !equal(got, want) || is != there || on != (number < n) || e != api.OK {
					t.Errorf("%d below %d: %s %v %v %v", number, n, text(got), is, on, e)
				}
			}
		}
	}
}

// P8.2: OpWrite.
func TestWriteByHand(t *testing.T) {
	write := func(off int, s string) api.Op { return api.Op{Kind: opWrite, Off: off, Data: []byte(s)} }
	full := strings.Repeat("w", 64)
	runSteps(t, []step{
		{"first", write(0, "x"), data("xbc"), api.OK},
		{"among", write(1, "x"), data("axc"), api.OK},
		{"last", write(2, "x"), data("abx"), api.OK},
		{"all", write(0, "xyz"), data("xyz"), api.OK},
		{"beyond", write(2, "xy"), data("abxy"), api.OK},
		{"over", write(0, "wxyz"), data("wxyz"), api.OK},
		{"behind", write(3, "x"), data("abcx"), api.OK},
		{"apart", write(5, "x"), data("abc\x00\x00x"), api.OK},
		{"nothing, first", write(0, ""), keep, api.OK},
		{"nothing, among", write(2, ""), keep, api.OK},
		{"nothing, behind", write(3, ""), keep, api.OK},
		{"nothing, apart", write(5, ""), data("abc\x00\x00"), api.OK},
		{"nothing at 64", write(64, ""), data("abc" + strings.Repeat("\x00", 61)), api.OK},
		{"no Data at 64", api.Op{Kind: opWrite, Off: 64}, data("abc" + strings.Repeat("\x00", 61)), api.OK},
		{"last of 64", write(63, "x"), data("abc" + strings.Repeat("\x00", 60) + "x"), api.OK},
		{"64", write(0, full), data(full), api.OK},
		{"63 from 1", write(1, full[1:]), data("a" + full[1:]), api.OK},
		{"nothing at 65", write(65, ""), nil, api.ErrLimit},
		{"nothing at -1", write(-1, ""), nil, api.ErrLimit},
		{"one at -1", write(-1, "x"), nil, api.ErrLimit},
		{"two at -1", write(-1, "xy"), nil, api.ErrLimit},
		{"one at 64", write(64, "x"), nil, api.ErrLimit},
		{"two at 63", write(63, "xy"), nil, api.ErrLimit},
		{"64 from 1", write(1, full), nil, api.ErrLimit},
		{"65", write(0, full+"w"), nil, api.ErrLimit},
		{"65 from -1", write(-1, full+"w"), nil, api.ErrLimit},
		{"far", write(math.MaxInt, "x"), nil, api.ErrLimit},
		{"near the greatest", write(math.MaxInt-1, "xyz"), nil, api.ErrLimit},
		{"far behind", write(math.MinInt, "x"), nil, api.ErrLimit},
	})
}

// P8.2: OpZero and OpCut.
func TestZeroAndCutByHand(t *testing.T) {
	zero := func(off, n int) api.Op { return api.Op{Kind: opZero, Off: off, N: n} }
	cut := func(n int) api.Op { return api.Op{Kind: opCut, N: n} }
	runSteps(t, []step{
		{"first", zero(0, 1), data("\x00bc"), api.OK},
		{"among", zero(1, 1), data("a\x00c"), api.OK},
		{"last", zero(2, 1), data("ab\x00"), api.OK},
		{"all", zero(0, 3), data("\x00\x00\x00"), api.OK},
		{"beyond", zero(1, 3), data("a\x00\x00"), api.OK},
		{"64", zero(0, 64), data("\x00\x00\x00"), api.OK},
		{"none", zero(1, 0), keep, api.OK},
		{"behind", zero(3, 61), keep, api.OK},
		{"apart", zero(63, 1), keep, api.OK},
		{"none at 64", zero(64, 0), keep, api.OK},
		{"none at 65", zero(65, 0), nil, api.ErrLimit},
		{"one at 64", zero(64, 1), nil, api.ErrLimit},
		{"64 from 1", zero(1, 64), nil, api.ErrLimit},
		{"65", zero(0, 65), nil, api.ErrLimit},
		{"at -1", zero(-1, 1), nil, api.ErrLimit},
		{"65 from -1", zero(-1, 65), nil, api.ErrLimit},
		{"-1 of them", zero(0, -1), nil, api.ErrLimit},
		{"-1 at 64", zero(64, -1), nil, api.ErrLimit},
		{"-1 at 65", zero(65, -1), nil, api.ErrLimit},
		{"far", zero(math.MaxInt, math.MaxInt), nil, api.ErrLimit},
		{"a sum that overflows", zero(1, math.MaxInt), nil, api.ErrLimit},
		{"far, none", zero(math.MaxInt, 0), nil, api.ErrLimit},
		{"far behind", zero(math.MinInt, math.MinInt), nil, api.ErrLimit},
		{"far ahead and back", zero(math.MinInt, math.MaxInt), nil, api.ErrLimit},
		{"cut to 0", cut(0), data(""), api.OK},
		{"cut to 1", cut(1), data("a"), api.OK},
		{"cut to 2", cut(2), data("ab"), api.OK},
		{"cut to 3", cut(3), keep, api.OK},
		{"cut to 4", cut(4), keep, api.OK},
		{"cut to 64", cut(64), keep, api.OK},
		{"cut to 65", cut(65), nil, api.ErrLimit},
		{"cut to -1", cut(-1), nil, api.ErrLimit},
		{"cut to the greatest", cut(math.MaxInt), nil, api.ErrLimit},
		{"cut to the least", cut(math.MinInt), nil, api.ErrLimit},
	})
}

// P8.2: OpSet and OpSeq.
func TestSetAndSeqByHand(t *testing.T) {
	set := func(n int) api.Op { return api.Op{Kind: opSet, Data: pattern(n)} }
	seq := func(n int) api.Op { return api.Op{Kind: opSeq, N: n} }
	number := func(n int) func(o *api.Object) { return func(o *api.Object) { o.Seq = n } }
	runSteps(t, []step{
		{"nothing", set(0), data(""), api.OK},
		{"one byte", set(1), data(string(pattern(1))), api.OK},
		{"63 bytes", set(63), data(string(pattern(63))), api.OK},
		{"64 bytes", set(64), data(string(pattern(64))), api.OK},
		{"65 bytes", set(65), nil, api.ErrLimit},
		{"2048 bytes", set(2048), nil, api.ErrLimit},
		{"0", seq(0), number(0), api.OK},
		{"less", seq(6), number(6), api.OK},
		{"the same", seq(7), number(7), api.OK},
		{"greater", seq(8), number(8), api.OK},
		{"2^40", seq(1 << 40), number(1 << 40), api.OK},
		{"-1", seq(-1), nil, api.ErrLimit},
		{"above 2^40", seq(1<<40 + 1), nil, api.ErrLimit},
		{"the greatest", seq(math.MaxInt), nil, api.ErrLimit},
		{"the least", seq(math.MinInt), nil, api.ErrLimit},
	})
}

// P8.2: OpKey and OpDrop.
func TestKeyAndDropByHand(t *testing.T) {
	set := func(name, value string) api.Op { return api.Op{Kind: opKey, Name: name, Data: []byte(value)} }
	drop := func(name string) api.Op { return api.Op{Kind: opDrop, Name: name} }
	without := func(at int) func(o *api.Object) {
		return func(o *api.Object) { o.Keys = slices.Delete(o.Keys, at, at+1) }
	}
	most := string(pattern(2048))
	steps := []step{
		{"first", set("a", "A"), key(0, "a", "A"), api.OK},
		{"among", set("s002", "two"), key(2, "s002", "two"), api.OK},
		{"ahead of a longer one", set("s", "S"), key(1, "s", "S"), api.OK},
		{"last", set("s0030", "Z"), key(3, "s0030", "Z"), api.OK},
		{"no value", set("s004", ""), key(3, "s004", ""), api.OK},
		{"2048 bytes", set("b", most), key(0, "b", most), api.OK},
		{"2049 bytes", set("b", most+"x"), nil, api.ErrLimit},
		{"12 bytes", set("abcdefghijkl", "x"), key(0, "abcdefghijkl", "x"), api.OK},
		{"first again", set("head", "X"), value(0, "X"), api.OK},
		{"again", set("s001", "other"), value(1, "other"), api.OK},
		{"again, shorter", set("s001", ""), value(1, ""), api.OK},
		{"last again", set("s003", most), value(2, most), api.OK},
		{"again, 2049 bytes", set("s003", most+"x"), nil, api.ErrLimit},
		{"drop the first", drop("head"), without(0), api.OK},
		{"drop one", drop("s001"), without(1), api.OK},
		{"drop the last", drop("s003"), without(2), api.OK},
	}
	for _, n := range invalidNames {
		steps = append(steps, step{fmt.Sprintf("set %q", n), set(n, "x"), nil, api.ErrLimit}, step{fmt.Sprintf("drop %q", n), drop(n), keep, api.OK})
	}
	for _, n := range []string{"a", "hea", "heads", "s", "s000", "s002", "s004", "z"} {
		steps = append(steps, step{fmt.Sprintf("drop %q", n), drop(n), keep, api.OK})
	}
	runSteps(t, steps)
}

// P8.2: OpClone, and OpFrom, whose first key of those that match counts.
func TestCloneAndFromByHand(t *testing.T) {
	clone := func(name string) api.Op { return api.Op{Kind: opClone, Name: name} }
	from := func(name string) api.Op { return api.Op{Kind: opFrom, Name: name} }
	steps := []step{
		{"first", clone("a"), key(0, "a", "abc"), api.OK},
		{"above all of its byte", clone("heads"), key(1, "heads", "abc"), api.OK},
		{"among, of another byte", clone("i"), key(1, "i", "abc"), api.OK},
		{"just above", clone("s0030"), key(3, "s0030", "abc"), api.OK},
		{"last", clone("s004"), key(3, "s004", "abc"), api.OK},
		{"12 bytes", clone("tttttttttttt"), key(3, "tttttttttttt", "abc"), api.OK},
		{"there", clone("s003"), keep, api.OK},
		{"there, with others behind", clone("s001"), keep, api.OK},
		{"a greater one", clone("s002"), keep, api.OK},
		{"two greater ones", clone("s000"), keep, api.OK},
		{"the byte itself", clone("s"), keep, api.OK},
		{"not valid, with a match", clone("s!"), keep, api.OK},
		{"too long, with a match", clone("s002222222222"), keep, api.OK},
		{"not valid, without one", clone("s~"), nil, api.ErrLimit},
		{"too long, without one", clone("ttttttttttttt"), nil, api.ErrLimit},
		{"empty", clone(""), nil, api.ErrLimit},
		{"capital", clone("A"), nil, api.ErrLimit},
		{"from the key", from("head"), data("H"), api.OK},
		{"from a key above", from("hea"), data("H"), api.OK},
		{"from none above", from("heads"), keep, api.OK},
		{"from the first of two", from("s000"), data("one"), api.OK},
		{"from the key of two", from("s001"), data("one"), api.OK},
		{"from an empty one", from("s002"), data(""), api.OK},
		{"from the last", from("s003"), data(""), api.OK},
		{"from above the last", from("s004"), keep, api.OK},
		{"from another byte ahead", from("a"), keep, api.OK},
		{"from another byte among", from("i"), keep, api.OK},
		{"from another byte behind", from("t"), keep, api.OK},
		{"from the empty name", from(""), keep, api.OK},
		{"from a name that may not be", from("s\x00"), data("one"), api.OK},
		{"from another one", from("s\xff"), keep, api.OK},
		{"from a capital", from("H"), keep, api.OK},
	}
	runSteps(t, steps)
}

// P8.2: OpFrom takes a value of 64 bytes, and no longer one.
func TestFromLength(t *testing.T) {
	for _, n := range []int{0, 1, 63, 64, 65, 66, 2048} {
		o := api.Object{Data: []byte("abc"), Keys: []api.Key{{Name: "s001", Value: pattern(n)}, {Name: "s002", Value: []byte("2")}}, Seq: 3}
		for _, name := range []string{"s", "s000", "s001"} {
			if n > 64 {
				fails(t, fmt.Sprint(n, " bytes"), o, true, api.Op{Kind: opFrom, Name: name}, api.ErrLimit)
				continue
			}
			want := cloned(o)
			want.Data = pattern(n)
			got, is, on, e := object.Do(o, true, api.Op{Kind: opFrom, Name: name})
			if !equal(got, want) || !is || !on || e != api.OK {
				t.Errorf("%d bytes: %s %v %v %v", n, text(got), is, on, e)
			}
		}
		got, _, _, e := object.Do(o, true, api.Op{Kind: opFrom, Name: "s002"})
		if string(got.Data) != "2" || e != api.OK {
			t.Errorf("a short one behind %d bytes: %s %v", n, text(got), e)
		}
	}
}

// P8.2: OpRemove leaves nothing, whether the object exists or not.
func TestRemove(t *testing.T) {
	for what, o := range rightObjects() {
		for _, there := range []bool{false, true} {
			got, is, on, e := object.Do(o, there, api.Op{Kind: opRemove})
			if !equal(got, api.Object{}) || is || !on || e != api.OK {
				t.Errorf("%s: %s %v %v %v", what, text(got), is, on, e)
			}
		}
	}
}

// P8.2: with 120 keys there is room for no other one, but for the same ones.
func TestManyKeys(t *testing.T) {
	for n := 117; n <= 120; n++ {
		o := api.Object{Data: []byte("abc"), Keys: manyKeys(n)}
		for i := -1; i <= 2*n; i++ {
			name := fmt.Sprintf("k%03d", i)
			if i < 0 {
				name = "a"
			}
			got, _, e := follows(t, o, true, api.Op{Kind: opKey, Name: name, Data: []byte("new")})
			has := i >= 0 && i%2 == 0 && i < 2*n
			if has && (e != api.OK || len(got.Keys) != n) || !has && n < 120 && len(got.Keys) != n+1 || !has && n == 120 && e != api.ErrLimit {
				t.Errorf("%s to %d keys: %d, %v", name, n, len(got.Keys), e)
			}
			follows(t, o, true, api.Op{Kind: opClone, Name: name})
			follows(t, o, true, api.Op{Kind: opDrop, Name: name})
			follows(t, o, true, api.Op{Kind: opFrom, Name: name})
			follows(t, o, true, api.Op{Kind: opKeyIs, Name: name, Data: pattern(i / 2 % 5)})
		}
	}
	full := api.Object{Keys: manyKeys(120)}
	fails(t, "a clone above 120 keys", full, true, api.Op{Kind: opClone, Name: "k239"}, api.ErrLimit)
	fails(t, "a clone of another byte", full, true, api.Op{Kind: opClone, Name: "l"}, api.ErrLimit)
	if got, _, _, e := object.Do(full, true, api.Op{Kind: opClone, Name: "k001"}); e != api.OK || !equal(got, full) {
		t.Errorf("a clone that is there among 120 keys: %v", e)
	}
}

// P8.2: an object that does not exist counts as empty, whatever is handed in.
func TestAbsent(t *testing.T) {
	full := api.Object{Data: pattern(64), Keys: append(manyKeys(119), api.Key{Name: "s001", Value: pattern(65)}), Seq: 9}
	nothing := api.Object{}
	for _, c := range []struct {
		op   api.Op
		want api.Object
		is   bool
		e    api.Errno
	}{
		{api.Op{Kind: opThere}, nothing, false, api.ErrAbsent},
		{api.Op{Kind: opAbsent}, nothing, false, api.OK},
		{api.Op{Kind: opKeyIs, Name: "s001", Data: pattern(65)}, nothing, false, api.ErrOther},
		{api.Op{Kind: opKeyIs}, nothing, false, api.ErrOther},
		{api.Op{Kind: opBelow, N: 1}, nothing, false, api.OK},
		{api.Op{Kind: opWrite, Off: 1, Data: []byte("x")}, api.Object{Data: []byte("\x00x")}, true, api.OK},
		{api.Op{Kind: opWrite}, nothing, true, api.OK},
		{api.Op{Kind: opWrite, Off: 64}, api.Object{Data: make([]byte, 64)}, true, api.OK},
		{api.Op{Kind: opWrite, Off: 65}, nothing, false, api.ErrLimit},
		{api.Op{Kind: opZero, N: 5}, nothing, false, api.OK},
		{api.Op{Kind: opZero, N: 65}, nothing, false, api.ErrLimit},
		{api.Op{Kind: opCut, N: 5}, nothing, false, api.OK},
		{api.Op{Kind: opCut, N: 65}, nothing, false, api.ErrLimit},
		{api.Op{Kind: opSet, Data: []byte("x")}, api.Object{Data: []byte("x")}, true, api.OK},
		{api.Op{Kind: opSet}, nothing, true, api.OK},
		{api.Op{Kind: opSet, Data: pattern(65)}, nothing, false, api.ErrLimit},
		{api.Op{Kind: opKey, Name: "a", Data: []byte("x")}, api.Object{Keys: []api.Key{{Name: "a", Value: []byte("x")}}}, true, api.OK},
		{api.Op{Kind: opKey, Data: []byte("x")}, nothing, false, api.ErrLimit},
		{api.Op{Kind: opDrop, Name: "s001"}, nothing, false, api.OK},
		{api.Op{Kind: opClone, Name: "k001"}, api.Object{Keys: []api.Key{{Name: "k001"}}}, true, api.OK},
		{api.Op{Kind: opClone, Name: "s!"}, nothing, false, api.ErrLimit},
		{api.Op{Kind: opSeq, N: 5}, api.Object{Seq: 5}, true, api.OK},
		{api.Op{Kind: opSeq}, nothing, true, api.OK},
		{api.Op{Kind: opSeq, N: -1}, nothing, false, api.ErrLimit},
		{api.Op{Kind: opRemove}, nothing, false, api.OK},
		{api.Op{Kind: opFrom, Name: "s001"}, nothing, false, api.OK},
	} {
		for _, o := range []api.Object{nothing, full, sample()} {
			got, is, on, e := object.Do(o, false, c.op)
			if !equal(got, c.want) || is != c.is || on != (c.e == api.OK) || e != c.e {
				t.Errorf("%+v: %s %v %v %v", c.op, text(got), is, on, e)
			}
		}
	}
}

// P8.2: fields that a kind does not mention are ignored.
func TestOtherFields(t *testing.T) {
	uses := map[int]string{opThere: "", opAbsent: "", opKeyIs: "name data", opBelow: "n", opWrite: "off data", opZero: "off n", opCut: "n", opSet: "data",
		opKey: "name data", opDrop: "name", opClone: "name", opSeq: "n", opRemove: "", opFrom: "name"}
	r := random(2)
	for range 6000 {
		o, there, op := r.object(), r.below(4) > 0, r.op()
		other := op
		if !strings.Contains(uses[op.Kind], "off") {
			other.Off = pick(&r, math.MinInt, -1, 1, 65, math.MaxInt)
		}
		if !slices.Contains(strings.Fields(uses[op.Kind]), "n") {
			other.N = pick(&r, math.MinInt, -1, 1, 65, 1<<40+1, math.MaxInt)
		}
		if !strings.Contains(uses[op.Kind], "name") {
			other.Name = pick(&r, append(validNames, invalidNames...)...)
		}
		if !strings.Contains(uses[op.Kind], "data") {
			other.Data = pattern(pick(&r, 1, 65, 2049, 5000))
		}
		a, aIs, aOn, aE := object.Do(o, there, op)
		b, bIs, bOn, bE := object.Do(o, there, other)
		if !equal(a, b) || aIs != bIs || aOn != bOn || aE != bE {
			t.Fatalf("%+v and %+v differ: %s %v %v %v, %s %v %v %v", op, other, text(a), aIs, aOn, aE, text(b), bIs, bOn, bE)
		}
	}
}

// P8.2: each kind does what its row of the table says.
func TestDo(t *testing.T) {
	r := random(3)
	for range 30000 {
		follows(t, r.object(), r.below(4) > 0, r.op())
	}
}

// P8.2: writes, zeros and cuts of each place and length.
func TestDoEachPlace(t *testing.T) {
	for _, size := range []int{0, 1, 31, 63, 64} {
		o := api.Object{Data: pattern(size), Seq: 1}
		for off := -1; off <= 65; off++ {
			for n := -1; n <= 65; n++ {
				follows(t, o, true, api.Op{Kind: opZero, Off: off, N: n})
				if n >= 0 {
					follows(t, o, true, api.Op{Kind: opWrite, Off: off, Data: bytes.Repeat([]byte("x"), n)})
				}
			}
			follows(t, o, true, api.Op{Kind: opCut, N: off})
		}
	}
}

// P8.2, P8.3: stories of operations; after each one the object is valid, and
// what was written is read.
func TestStories(t *testing.T) {
	r := random(4)
	for range 300 {
		o, there := api.Object{}, false
		for range 60 {
			op := r.op()
			if op.Kind == opRemove && r.below(4) > 0 {
				continue
			}
			got, is, e := follows(t, o, there, op)
			if e != api.OK {
				continue
			}
			o, there = got, is
			if object.Check(o) != api.OK || !isValid(o) {
				t.Fatalf("%+v makes %s", op, text(o))
			}
			readsBack(t, o, op)
		}
	}
}

// readsBack asks whether what an operation wrote is read.
func readsBack(t *testing.T, o api.Object, op api.Op) {
	t.Helper()
	off, want := op.Off, op.Data
	switch op.Kind {
	case opSet:
		off = 0
	case opKey:
		if v, ok := object.Get(o, op.Name); !ok || !bytes.Equal(v, op.Data) || !bytes.Equal(object.At(o, op.Name), op.Data) {
			t.Fatalf("%+v is read as %q, %v", op, v, ok)
		}
		return
	case opZero:
		want = make([]byte, op.N)
	case opCut:
		off, want = op.N, make([]byte, 64-op.N)
	case opDrop:
		if v, ok := object.Get(o, op.Name); ok {
			t.Fatalf("%+v leaves %q", op, v)
		}
		return
	case opFrom:
		off, want = 0, object.At(o, op.Name)
	case opWrite:
	default:
		return
	}
	if got := object.Read(o, off, len(want)); !bytes.Equal(got, want) {
		t.Fatalf("%+v is read as %q", op, got)
	}
}

// P8.3: a clone of the data stays, whatever is done to the data and to other keys.
func TestClonesStay(t *testing.T) {
	r := random(5)
	kinds := []int{opWrite, opZero, opCut, opSet, opFrom, opClone, opSeq}
	for range 300 {
		first := pattern(r.below(65))
		o, _, _, e := object.Do(api.Object{Data: slices.Clone(first)}, true, api.Op{Kind: opClone, Name: "s005"})
		if e != api.OK {
			t.Fatal(e)
		}
		for range 40 {
			op := r.op()
			op.Kind = pick(&r, kinds...)
			if op.Kind == opClone {
				op.Name = pick(&r, "s001", "s005", "s006", "s009", "t001", "a")
			}
			if got, _, _, e := object.Do(o, true, op); e == api.OK {
				o = got
			}
			for _, name := range []string{"s005", "s002", "s"} {
				if name != "s005" && slices.ContainsFunc(o.Keys, func(k api.Key) bool { return k.Name < "s005" && k.Name >= name }) {
					continue
				}
				if got := object.At(o, name); !bytes.Equal(got, first) {
					t.Fatalf("after %+v the clone at %s is %q, and was %q", op, name, got, first)
				}
			}
			if got, ok := object.Get(o, "s005"); !ok || !bytes.Equal(got, first) {
				t.Fatalf("after %+v the clone is %q, and was %q", op, got, first)
			}
		}
	}
}

// P8.2, P8.3: the example of the chapter.
func TestExample(t *testing.T) {
	o := api.Object{Data: []byte("ab")}
	for _, op := range []api.Op{{Kind: opClone, Name: "s001"}, {Kind: opWrite, Data: []byte("c")}} {
		var e api.Errno
		if o, _, _, e = object.Do(o, true, op); e != api.OK {
			t.Fatal(e)
		}
	}
	if string(o.Data) != "cb" || string(object.At(o, "s001")) != "ab" || string(object.At(o, "s002")) != "cb" {
		t.Error(text(o))
	}
}

// roomy is b with spare capacity, and all of its memory.
func roomy(b []byte) (part, room []byte) {
	room = append(bytes.Clone(b), "spare capacity"...)
	return room[:len(b)], room
}

// spare is o with spare capacity behind each list, and a function that reports
// whether o and the spare capacity are as they were.
func spare(o api.Object) (api.Object, func() bool) {
	var rooms [][]byte
	keep := func(b []byte) []byte {
		part, room := roomy(b)
		rooms = append(rooms, room)
		return part
	}
	o = cloned(o)
	o.Data = keep(o.Data)
	all := append(o.Keys, api.Key{Name: "spare", Value: []byte("spare")}, api.Key{}, api.Key{Name: "more"})
	for i, k := range all {
		all[i].Value = keep(k.Value)
	}
	o.Keys = all[: len(all)-3 : cap(all)]
	now := func() api.Object { return api.Object{Data: bytes.Join(rooms, []byte("|")), Keys: all, Seq: o.Seq} }
	before := cloned(now())
	return o, func() bool { return equal(before, now()) }
}

// spoilBytes changes a result and its spare capacity.
func spoilBytes(b []byte) {
	b = b[:cap(b)]
	for i := range b {
		b[i] ^= 0x55
	}
}

// spoil changes all that an object refers to.
func spoil(o api.Object) {
	spoilBytes(o.Data)
	keys := o.Keys[:cap(o.Keys)]
	for i := range keys {
		spoilBytes(keys[i].Value)
		keys[i] = api.Key{Name: "spoilt", Value: []byte("spoilt")}
	}
}

// P8.1, P8.2: what is handed in stays as it was, also when what was returned is
// changed and appended to; and what was returned stays when that is changed.
func TestMemory(t *testing.T) {
	r := random(6)
	objects := slices.Collect(maps.Values(rightObjects()))
	for range 400 {
		objects = append(objects, r.object())
	}
	for _, plain := range objects {
		o, same := spare(plain)
		check := func(call string) {
			t.Helper()
			if !same() {
				t.Fatalf("%s changed %s", call, text(plain))
			}
		}
		object.Check(o)
		object.Same(o, o)
		spoil(object.Clone(o))
		for _, name := range append(validNames, "", "s!") {
			v, _ := object.Get(o, name)
			spoilBytes(v)
			spoilBytes(object.At(o, name))
		}
		spoilBytes(object.Read(o, 0, 64))
		spoilBytes(object.Read(o, 1, r.below(64)))
		check("Check, Same, Clone, Get, At or Read")
		for kind := range 16 {
			op := r.op()
			op.Kind = kind
			keepsMemory(t, o, op, check)
		}
	}
}

// keepsMemory asks whether Do neither changes nor keeps the object and the
// Data, and whether no two lists of its result share memory.
func keepsMemory(t *testing.T, o api.Object, op api.Op, check func(call string)) {
	t.Helper()
	part, room := roomy(op.Data)
	op.Data = part
	was := bytes.Clone(room)
	for _, there := range []bool{false, true} {
		got, _, _, _ := object.Do(o, there, op)
		check(fmt.Sprintf("%+v", op))
		before := cloned(got)
		spoilBytes(part)
		if !equal(got, before) {
			t.Fatalf("%+v keeps its Data", op)
		}
		spoilBytes(part)
		spoilBytes(got.Data)
		for i, k := range got.Keys {
			again := bytes.Clone(k.Value)
			for j, other := range got.Keys {
				if i != j {
					spoilBytes(other.Value)
				}
			}
			if !bytes.Equal(k.Value, again) {
				t.Fatalf("%+v: the value of %s changes with another one", op, k.Name)
			}
		}
		spoil(got)
		check(fmt.Sprintf("what %+v returned", op))
		if !bytes.Equal(room, was) {
			t.Fatalf("%+v changed its Data", op)
		}
	}
}

// P8.1, P8.2: the clone and the data, and the data that a clone became, are not
// the same memory; and Do takes Data that is the object's own.
func TestSharesNothing(t *testing.T) {
	o := api.Object{Data: []byte("abc"), Keys: []api.Key{{Name: "s001", Value: []byte("one")}, {Name: "t001", Value: []byte("tee")}}}
	for _, op := range []api.Op{{Kind: opFrom, Name: "s001"}, {Kind: opClone, Name: "a"}, {Kind: opClone, Name: "z"}} {
		got, _, _, e := object.Do(o, true, op)
		if e != api.OK {
			t.Fatal(e)
		}
		before := cloned(got)
		spoilBytes(got.Data)
		if !equal(api.Object{Keys: got.Keys}, api.Object{Keys: before.Keys}) {
			t.Errorf("%+v: keys change with the data", op)
		}
	}
	for _, op := range []api.Op{
		{Kind: opWrite, Off: 1, Data: o.Data}, {Kind: opWrite, Off: 0, Data: o.Data[1:]}, {Kind: opSet, Data: o.Data[:2]}, {Kind: opSet, Data: o.Keys[0].Value},
		{Kind: opKey, Name: "s001", Data: o.Data}, {Kind: opKey, Name: "b", Data: o.Keys[1].Value}, {Kind: opKeyIs, Name: "s001", Data: o.Keys[0].Value},
	} {
		own := op
		own.Data = bytes.Clone(op.Data)
		want, _, _ := follows(t, cloned(o), true, own)
		got, _, _ := follows(t, o, true, op)
		if !equal(got, want) {
			t.Errorf("%+v: %s, want %s", op, text(got), text(want))
		}
		before := cloned(o)
		spoil(got)
		if !equal(o, before) {
			t.Errorf("%+v shares memory with the object", op)
		}
	}
}
