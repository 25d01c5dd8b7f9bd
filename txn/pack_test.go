package txn_test

import (
	"bytes"
	"encoding/binary"
	"fmt"
	"math"
	"slices"
	"strings"
	"testing"

	"terrazzo/api"
	"terrazzo/txn"
)

// big is the encoding of n in so many bytes, as far as they hold it.
func big(n, width int) []byte {
	return binary.BigEndian.AppendUint64(nil, uint64(n))[8-width:]
}

// blob is the encoding of a byte string.
func blob(s string) []byte { return append(big(len(s), 2), s...) }

// encodedOp is the encoding of an operation, valid or not, each field by hand.
func encodedOp(op api.Op) []byte {
	return slices.Concat(big(op.Kind, 1), big(op.Off, 6), big(op.N, 6), blob(op.Name), blob(string(op.Data)))
}

// encoded is the encoding of a transaction, valid or not, each field by hand.
func encoded(t api.Txn) []byte {
	b := append(blob(t.Object), byte(len(t.Ops)))
	for _, op := range t.Ops {
		b = append(b, encodedOp(op)...)
	}
	return b
}

// decoder reads fields by the words of the chapters, up to the first error.
type decoder struct {
	b []byte
	e api.Errno
}

func (d *decoder) take(n int) []byte {
	if d.e == api.OK && n > len(d.b) {
		d.e = api.ErrShort
	}
	if d.e != api.OK {
		return nil
	}
	x := d.b[:n]
	d.b = d.b[n:]
	return x
}

func (d *decoder) num(width, most int) int {
	n := 0
	for _, c := range d.take(width) {
		n = n*256 + int(c)
	}
	if d.e == api.OK && n > most {
		d.e = api.ErrForm
	}
	return n
}

func (d *decoder) blob(most int) string { return string(d.take(d.num(2, most))) }

// decoded is what Unpack has to return.
func decoded(b []byte) (api.Txn, api.Errno) {
	d := &decoder{b: b}
	t := api.Txn{Object: d.blob(12)}
	for n := d.num(1, 12); n > 0 && d.e == api.OK; n-- {
		t.Ops = append(t.Ops, api.Op{Kind: d.num(1, 255), Off: d.num(6, math.MaxInt), N: d.num(6, math.MaxInt), Name: d.blob(12), Data: []byte(d.blob(2048))})
	}
	if d.e == api.OK && len(d.b) > 0 {
		d.e = api.ErrForm
	}
	if d.e == api.OK {
		d.e = checked(t)
	}
	if d.e != api.OK {
		return api.Txn{}, d.e
	}
	return t, api.OK
}

// decodes asks whether Unpack returns what the words of the chapter say, and
// returns the error.
func decodes(t *testing.T, what string, b []byte) api.Errno {
	t.Helper()
	want, e := decoded(b)
	got, err := txn.Unpack(b)
	if told(got) != told(want) || err != e {
		t.Fatalf("%s:\nis   %s %v\nwant %s %v", what, short(told(got)), err, short(told(want)), e)
	}
	return err
}

// rejects asks whether Unpack returns this error, and nothing beside it.
func rejects(t *testing.T, what string, b []byte, e api.Errno) {
	t.Helper()
	if err := decodes(t, what, b); err != e {
		t.Errorf("%s: %v, want %v", what, err, e)
	}
	if got, _ := txn.Unpack(b); got.Object != "" || len(got.Ops) > 0 {
		t.Errorf("%s: %s beside the error", what, short(told(got)))
	}
}

// returns asks whether x is packed byte by byte as it is by hand, and unpacked again.
func returns(t *testing.T, what string, x api.Txn) []byte {
	t.Helper()
	b := txn.Pack(x)
	if !bytes.Equal(b, encoded(x)) {
		t.Fatalf("%s: %q, want %q", what, short(string(b)), short(string(encoded(x))))
	}
	if got, e := txn.Unpack(b); told(got) != told(x) || e != api.OK {
		t.Fatalf("%s: %s %v, want %s", what, short(told(got)), e, short(told(x)))
	}
	decodes(t, what, b)
	return b
}

// sampleTxn is a transaction of two operations that has something in each field.
func sampleTxn() api.Txn {
	return api.Txn{Object: "h0", Ops: []api.Op{
		{Kind: opKey, Off: 1, N: 258, Name: "head", Data: []byte("ab")},
		{Kind: opWrite, Off: 1<<40 - 2, N: 1 << 40, Name: "x", Data: []byte("cde")},
	}}
}

// P9.3: the bytes of a transaction, one by one.
func TestPackBytes(t *testing.T) {
	want := []byte{
		0, 2, 'h', '0',
		2,
		9, 0, 0, 0, 0, 0, 1, 0, 0, 0, 0, 1, 2, 0, 4, 'h', 'e', 'a', 'd', 0, 2, 'a', 'b',
		5, 0, 255, 255, 255, 255, 254, 1, 0, 0, 0, 0, 0, 0, 1, 'x', 0, 3, 'c', 'd', 'e',
	}
	if b := txn.Pack(sampleTxn()); !bytes.Equal(b, want) {
		t.Errorf("%v, want %v", b, want)
	}
	if b := txn.Pack(api.Txn{Object: "a"}); !bytes.Equal(b, []byte{0, 1, 'a', 0}) {
		t.Errorf("without operations: %v", b)
	}
	if b := txn.Pack(on(api.Op{Kind: opFrom})); !bytes.Equal(b, append([]byte("\x00\x04d0.1\x01\x0e"), make([]byte, 16)...)) {
		t.Errorf("without fields: %v", b)
	}
}

// P9.3, P9.4: what is packed is unpacked, at the edges of the fields too.
func TestPackRight(t *testing.T) {
	for _, n := range rightNames {
		returns(t, n, api.Txn{Object: n})
		returns(t, n, api.Txn{Object: n, Ops: sampleTxn().Ops})
	}
	for n := range 13 {
		returns(t, fmt.Sprint(n, " operations"), on(many(n, opRemove)...))
	}
	for what, op := range rightOps() {
		returns(t, what, on(op))
		returns(t, what+", last", on(append(many(11, opThere), op)...))
		returns(t, what+", first", on(append([]api.Op{op}, many(11, opFrom)...)...))
		returns(t, what+", among", on(write(1, "x"), op, api.Op{Kind: opSeq, N: 1 << 40}))
	}
	greatest := api.Op{Kind: opFrom, Off: 1 << 40, N: 1 << 40, Name: strings.Repeat("\xff", 12), Data: pattern(2048)}
	if b := returns(t, "greatest", api.Txn{Object: "abcdefghijkl", Ops: slices.Repeat([]api.Op{greatest}, 12)}); len(b) != 14+1+12*(13+14+2050) {
		t.Errorf("greatest: %d bytes", len(b))
	}
	r := random(3)
	for range 2000 {
		x := r.txn(r.below(13))
		returns(t, told(x), x)
	}
}

// P9.3: a transaction that is not valid has no bytes.
func TestPackWrong(t *testing.T) {
	none := func(what string, x api.Txn) {
		t.Helper()
		if b := txn.Pack(x); len(b) > 0 {
			t.Errorf("%s: %q", what, short(string(b)))
		}
	}
	none("zero value", api.Txn{})
	for _, n := range wrongNames {
		none(short(n), api.Txn{Object: n})
		none(short(n), api.Txn{Object: n, Ops: sampleTxn().Ops})
	}
	for what, op := range wrongOps() {
		none(what, on(op))
		none(what+", last", on(append(many(11, opThere), op)...))
		none(what+", of 13", on(append(many(12, opThere), op)...))
	}
	for _, n := range []int{13, 14, 255, 256, 257, 268} {
		none(fmt.Sprint(n, " operations"), on(many(n, opThere)...))
	}
}

// P9.3, P9.4: each length of bytes cut short is ErrShort; bytes at the end are
// ErrForm.
func TestUnpackLengths(t *testing.T) {
	r := random(4)
	txns := []api.Txn{{Object: "a"}, sampleTxn(), on(many(12, opRemove)...), on(api.Op{Kind: opKey, Name: "abcdefghijkl", Data: pattern(2048)})}
	for n := range 13 {
		txns = append(txns, r.txn(n))
	}
	for _, x := range txns {
		b, all := encoded(x), short(told(x))
		for n := range b {
			rejects(t, fmt.Sprintf("%d bytes of %s", n, all), b[:n], api.ErrShort)
		}
		for _, more := range []string{"\x00", "\xff", "\x00\x00", string(b), strings.Repeat("x", 1000)} {
			rejects(t, "bytes behind "+all, append(slices.Clone(b), more...), api.ErrForm)
		}
	}
	for _, b := range [][]byte{nil, {}, {0}, {0, 0}, {0, 12}, {0, 1, 'a'}} {
		rejects(t, fmt.Sprint(b), b, api.ErrShort)
	}
	rejects(t, "nothing but lengths", []byte{0, 0, 0}, api.ErrArg)
	rejects(t, "a zero behind them", []byte{0, 0, 0, 0}, api.ErrForm)
}

// P9.3: the name of the object: its length counts ahead of its bytes, and
// which bytes they are behind all of that.
func TestUnpackObject(t *testing.T) {
	rest := encoded(sampleTxn())[4:]
	with := func(name string) []byte { return append(blob(name), rest...) }
	for n := 13; n < 300; n++ {
		rejects(t, fmt.Sprint(n, " bytes"), with(strings.Repeat("a", n)), api.ErrForm)
		rejects(t, fmt.Sprint(n, " bytes, cut"), big(n, 2), api.ErrForm)
	}
	rejects(t, "65535 bytes", with(strings.Repeat("a", 65535)), api.ErrForm)
	rejects(t, "65535 bytes, cut", []byte{255, 255, 'a'}, api.ErrForm)
	rejects(t, "12 bytes, cut", []byte{0, 12, 'a'}, api.ErrShort)
	for c := range 256 {
		b := with("a" + string([]byte{byte(c)}))
		if e := decodes(t, fmt.Sprint("byte ", c), b); e != checked(api.Txn{Object: "a" + string([]byte{byte(c)})}) {
			t.Errorf("byte %d: %v", c, e)
		}
	}
	for _, n := range wrongNames {
		if len(n) <= 12 {
			rejects(t, short(n), with(n), api.ErrArg)
			rejects(t, short(n)+", bytes at the end", append(with(n), 0), api.ErrForm)
			rejects(t, short(n)+", cut", with(n)[:len(with(n))-1], api.ErrShort)
			rejects(t, short(n)+", 13 operations", append(blob(n), 13), api.ErrForm)
		}
	}
}

// P9.3: the number of operations: more than 12 are ErrForm, ahead of all that
// is behind it.
func TestUnpackCount(t *testing.T) {
	op := encodedOp(api.Op{Kind: opThere})
	for n := range 256 {
		b := append([]byte("\x00\x01a"), byte(n))
		whole := slices.Concat(b, bytes.Repeat(op, n))
		e := api.OK
		if n > 12 {
			e = api.ErrForm
			rejects(t, fmt.Sprint(n, " operations, none there"), b, api.ErrForm)
			rejects(t, fmt.Sprint(n, " operations, wrong ones"), append(b, 0), api.ErrForm)
		} else if n > 0 {
			rejects(t, fmt.Sprint(n, " operations, none there"), b, api.ErrShort)
			rejects(t, fmt.Sprint(n, " operations, one missing"), slices.Concat(b, bytes.Repeat(op, n-1)), api.ErrShort)
		}
		if err := decodes(t, fmt.Sprint(n, " operations"), whole); err != e {
			t.Errorf("%d operations: %v, want %v", n, err, e)
		}
		if n < 13 {
			rejects(t, fmt.Sprint(n, " operations, one more there"), append(whole, op...), api.ErrForm)
		}
	}
}

// P9.3: the fields of an operation, at each place: lengths that are too great
// are ErrForm, and then what may not be is ErrArg.
func TestUnpackOps(t *testing.T) {
	form := map[string][]byte{}
	for _, n := range []int{13, 14, 255, 256, 2048, 65535} {
		form[fmt.Sprint("Name of ", n)] = append(make([]byte, 13), slices.Concat(big(n, 2), make([]byte, n), []byte{0, 0})...)
		form[fmt.Sprint("Name of ", n, ", cut")] = append(make([]byte, 13), big(n, 2)...)
	}
	for _, n := range []int{2049, 2050, 4096, 65535} {
		form[fmt.Sprint("Data of ", n)] = append(make([]byte, 15), slices.Concat(big(n, 2), make([]byte, n))...)
		form[fmt.Sprint("Data of ", n, ", cut")] = append(make([]byte, 15), big(n, 2)...)
	}
	arg := map[string][]byte{}
	for what, op := range wrongOps() {
		if len(op.Name) <= 12 && len(op.Data) <= 2048 && min(op.Kind, op.Off, op.N) >= 0 && op.Kind < 256 && max(op.Off, op.N) < 1<<48 {
			arg[what] = encodedOp(op)
		}
	}
	if len(arg) < 8 {
		t.Error("only", len(arg), "operations that may not be")
	}
	right := encodedOp(api.Op{Kind: opThere})
	for n := 1; n <= 12; n++ {
		for i := range n {
			head := append([]byte("\x00\x01a"), byte(n))
			ahead, behind := bytes.Repeat(right, i), bytes.Repeat(right, n-1-i)
			for what, b := range form {
				rejects(t, what, slices.Concat(head, ahead, b, behind), api.ErrForm)
			}
			for what, b := range arg {
				whole := slices.Concat(head, ahead, b, behind)
				rejects(t, what, whole, api.ErrArg)
				rejects(t, what+", bytes at the end", append(whole, 0), api.ErrForm)
				rejects(t, what+", cut", whole[:len(whole)-1], api.ErrShort)
			}
		}
	}
}

// P9.3: of several errors the first one counts, in the order of the fields.
func TestUnpackFirst(t *testing.T) {
	right := encodedOp(api.Op{Kind: opThere})
	wrong := encodedOp(api.Op{Kind: 15})
	long := append(make([]byte, 13), slices.Concat(blob(strings.Repeat("k", 13)), blob(""))...)
	big2049 := append(make([]byte, 15), blob(strings.Repeat("v", 2049))...)
	name := func(s string, n int) []byte { return append(blob(s), byte(n)) }
	for what, c := range map[string]struct {
		b []byte
		e api.Errno
	}{
		"name too long, cut behind it":     {blob("abcdefghijklm"), api.ErrForm},
		"name too long, 13 operations":     {name("abcdefghijklm", 13), api.ErrForm},
		"name that may not be, cut":        {blob("A"), api.ErrShort},
		"name that may not be, 13":         {name("A", 13), api.ErrForm},
		"name that may not be, wrong one":  {append(name("A", 1), wrong...), api.ErrArg},
		"wrong kind, cut in it":            {append(name("a", 1), 0), api.ErrShort},
		"wrong kind, then Name too long":   {slices.Concat(name("a", 2), wrong, long), api.ErrForm},
		"wrong kind, then Data too long":   {slices.Concat(name("a", 2), wrong, big2049), api.ErrForm},
		"wrong kind, then cut":             {slices.Concat(name("a", 2), wrong, right[:5]), api.ErrShort},
		"Name too long, then cut":          {slices.Concat(name("a", 2), long), api.ErrForm},
		"Data too long, then cut":          {slices.Concat(name("a", 2), big2049), api.ErrForm},
		"cut ahead of a Name too long":     {slices.Concat(name("a", 1), long[:14]), api.ErrShort},
		"cut ahead of Data too long":       {slices.Concat(name("a", 1), big2049[:16]), api.ErrShort},
		"wrong kind, bytes at the end":     {slices.Concat(name("a", 1), wrong, []byte{0}), api.ErrForm},
		"wrong kind, of 12":                {slices.Concat(name("a", 12), bytes.Repeat(right, 11), wrong), api.ErrArg},
		"wrong kind, of 13":                {slices.Concat(name("a", 13), bytes.Repeat(right, 12), wrong), api.ErrForm},
		"13 operations, and bytes at end":  {slices.Concat(name("a", 13), bytes.Repeat(right, 14)), api.ErrForm},
		"Name too long and cut, at length": {slices.Concat(name("a", 1), long[:15]), api.ErrForm},
	} {
		rejects(t, what, c.b, c.e)
	}
}

// P9.3: bytes of which one, or two, were changed.
func TestUnpackChanged(t *testing.T) {
	found := map[api.Errno]int{}
	for _, x := range []api.Txn{sampleTxn(), on(), on(api.Op{Kind: opKey, N: 3, Name: "abcdefghijkl", Data: pattern(13)}, api.Op{Kind: opThere})} {
		for i, was := range encoded(x) {
			for c := range 256 {
				b := encoded(x)
				b[i] = byte(c)
				e := decodes(t, fmt.Sprintf("byte %d of %s is %d and not %d", i, told(x), c, was), b)
				found[e]++
			}
		}
	}
	long := encoded(on(api.Op{Kind: opKey, Name: "abcdefghijkl", Data: pattern(2048)}))
	r := random(5)
	for range 5000 {
		b := slices.Clone(long)
		for range 2 {
			b[r.below(len(b))] = byte(pick(&r, 0, 1, 7, 8, 12, 13, 255))
			b[r.below(40)] = byte(pick(&r, 0, 1, 2, 12, 13, 14, 15, 255))
		}
		found[decodes(t, "changed at random", b)]++
	}
	for range 20000 {
		b := make([]byte, r.below(60))
		for i := range b {
			b[i] = byte(pick(&r, 0, 0, 0, 1, 2, 12, 13, 97, 255))
		}
		found[decodes(t, fmt.Sprint(b), b)]++
	}
	for _, e := range []api.Errno{api.OK, api.ErrArg, api.ErrShort, api.ErrForm} {
		if found[e] < 50 {
			t.Errorf("%v: only %d times", e, found[e])
		}
	}
}

// P9.3, P9.4: what is unpacked without error is packed to the same bytes.
func TestUnpackPack(t *testing.T) {
	r := random(6)
	for range 5000 {
		b := encoded(r.txn(r.below(4)))
		b[r.below(len(b))] = byte(r.below(256))
		if x, e := txn.Unpack(b); e == api.OK && !bytes.Equal(txn.Pack(x), b) {
			t.Fatalf("%s is packed to other bytes", told(x))
		}
	}
}
