package frame_test

import (
	"bytes"
	"encoding/binary"
	"hash/crc32"
	"math"
	"slices"
	"testing"

	"terrazzo/api"
	"terrazzo/frame"
)

// pattern is n bytes that are not all the same.
func pattern(n int) []byte {
	b := make([]byte, n)
	for i := range b {
		b[i] = byte(i*7 + i>>8)
	}
	return b
}

// modelSum is the checksum, computed bit by bit as the chapter describes it.
func modelSum(b []byte) uint32 {
	register := uint32(math.MaxUint32)
	for _, x := range b {
		register ^= uint32(x)
		for range 8 {
			out := register & 1
			register >>= 1
			if out == 1 {
				register ^= 2197175160
			}
		}
	}
	return ^register
}

// sealed is b followed by its checksum, computed by the library.
func sealed(b []byte) []byte {
	sum := crc32.Checksum(b, crc32.MakeTable(crc32.Castagnoli))
	return binary.LittleEndian.AppendUint32(bytes.Clone(b), sum)
}

// header is the header of a frame, of any length of the body that fits it.
func header(kind, length int) []byte {
	return sealed([]byte{90, byte(kind), byte(length / 256), byte(length % 256)})
}

// model is the frame of a body, written apart from the program.
func model(kind int, body []byte) []byte {
	return append(header(kind, len(body)), sealed(body)...)
}

// made is the frame that the program makes.
func made(t *testing.T, kind int, body []byte) []byte {
	t.Helper()
	f, e := frame.Make(kind, body)
	if e != api.OK {
		t.Fatalf("Make(%d, %d bytes): error %d", kind, len(body), e)
	}
	return f
}

// refused holds that Next(b) returns the error want, and nothing else.
func refused(t *testing.T, name string, b []byte, want api.Errno) {
	t.Helper()
	kind, body, rest, e := frame.Next(b)
	if e != want || kind != 0 || len(body) != 0 || len(rest) != 0 {
		t.Errorf("%s: kind %d, body %v, rest %v, error %d, want error %d", name, kind, body, rest, e, want)
	}
}

// P2.1: checksums that are known.
func TestSumKnown(t *testing.T) {
	for _, c := range []struct {
		b    []byte
		want uint32
	}{
		{nil, 0},
		{[]byte{}, 0},
		{[]byte("123456789"), 3808858755},
		{[]byte("a"), 0xc1d04330},
		{bytes.Repeat([]byte{0}, 32), 0x8a9136aa},
		{bytes.Repeat([]byte{255}, 32), 0x62a8ab43},
	} {
		if got := frame.Sum(c.b); got != c.want {
			t.Errorf("Sum(%v) = %d, want %d", c.b, got, c.want)
		}
	}
}

// P2.1: checksums of every byte, and of many lengths, as the chapter and as the library compute them.
func TestSumComputes(t *testing.T) {
	table := crc32.MakeTable(crc32.Castagnoli)
	var inputs [][]byte
	for x := range 256 {
		inputs = append(inputs, []byte{byte(x)}, []byte{byte(x), 1}, []byte{200, byte(x)})
	}
	for n := range 300 {
		inputs = append(inputs, pattern(n), make([]byte, n))
	}
	for _, b := range append(inputs, pattern(8192), pattern(8193), pattern(100000)) {
		kept := bytes.Clone(b)
		got := frame.Sum(b)
		if got != modelSum(b) || got != crc32.Checksum(b, table) {
			t.Errorf("Sum of %d bytes that begin %v: %d, want %d", len(b), b[:min(len(b), 2)], got, modelSum(b))
		}
		if !bytes.Equal(b, kept) {
			t.Error("Sum changed its argument")
		}
	}
}

// P2.1: the frame of kind 3 with an empty body, byte by byte.
func TestMakeByHand(t *testing.T) {
	want := []byte{90, 3, 0, 0, 9, 37, 168, 169, 0, 0, 0, 0}
	for _, body := range [][]byte{nil, {}} {
		if got := made(t, 3, body); !bytes.Equal(got, want) {
			t.Errorf("got %v, want %v", got, want)
		}
	}
	got := made(t, 255, []byte("123456789"))
	if !bytes.Equal(got[:4], []byte{90, 255, 0, 9}) || !bytes.Equal(got[8:], append([]byte("123456789"), 0x83, 0x92, 0x06, 0xe3)) {
		t.Error(got)
	}
}

// P2.1: frames of all kinds and of many lengths, up to MaxBody.
func TestMakeEncodes(t *testing.T) {
	for kind := range 256 {
		body := pattern(kind % 5)
		if got := made(t, kind, body); !bytes.Equal(got, model(kind, body)) {
			t.Errorf("frame of kind %d: %v", kind, got)
		}
	}
	for _, n := range []int{0, 1, 2, 255, 256, 257, 511, 4096, 8191, 8192} {
		body := pattern(n)
		for _, kind := range []int{0, 90, 255} {
			if got := made(t, kind, body); !bytes.Equal(got, model(kind, body)) {
				t.Errorf("frame of kind %d of %d bytes is wrong", kind, n)
			}
		}
	}
}

// P2.1: the errors of Make: the kind is checked before the length.
func TestMakeRefuses(t *testing.T) {
	if api.MaxBody != 8192 {
		t.Fatal(api.MaxBody)
	}
	for _, c := range []struct {
		kind, n int
		want    api.Errno
	}{
		{-1, 0, api.ErrArg},
		{256, 0, api.ErrArg},
		{math.MinInt, 5, api.ErrArg},
		{math.MaxInt, 5, api.ErrArg},
		{256 + 3, 5, api.ErrArg},
		{0, 8192, api.OK},
		{255, 8192, api.OK},
		{0, 8193, api.ErrLimit},
		{255, 8193, api.ErrLimit},
		{7, 65536 + 2, api.ErrLimit},
		{-1, 8193, api.ErrArg},
		{256, 8193, api.ErrArg},
	} {
		f, e := frame.Make(c.kind, make([]byte, c.n))
		if e != c.want || e != api.OK && len(f) != 0 || e == api.OK && len(f) != c.n+12 {
			t.Errorf("Make(%d, %d bytes): %d bytes, error %d, want %d", c.kind, c.n, len(f), e, c.want)
		}
	}
}

// spoil overwrites b, its spare capacity too.
func spoil(b []byte) {
	b = b[:cap(b)]
	for i := range b {
		b[i] ^= 0x55
	}
}

// P2.1: a frame is new memory, and the body stays as it was, its spare capacity too.
func TestMakeLeavesArguments(t *testing.T) {
	for _, n := range []int{0, 1, 20} {
		room := bytes.Repeat([]byte{77}, 60)
		f := made(t, 9, room[:n])
		kept := bytes.Clone(f)
		spoil(f)
		if !bytes.Equal(room, bytes.Repeat([]byte{77}, 60)) {
			t.Errorf("the frame of %d bytes shares memory with its body", n)
		}
		if g := made(t, 9, room[:n]); !bytes.Equal(g, kept) {
			t.Errorf("frames of the same body: %v, then %v", kept, g)
		}
	}
}

// P2.2: a frame is decoded, with the bytes after it.
func TestNextDecodes(t *testing.T) {
	frames := 0
	for _, kind := range []int{0, 1, 90, 128, 255} {
		for _, n := range []int{0, 1, 2, 255, 256, 257, 8191, 8192} {
			for _, rest := range [][]byte{nil, {9}, {90, 1}, model(5, []byte("x")), pattern(70000)} {
				body := pattern(n)
				k, b, r, e := frame.Next(append(model(kind, body), rest...))
				if k != kind || !bytes.Equal(b, body) || !bytes.Equal(r, rest) || e != api.OK {
					t.Errorf("kind %d, %d bytes, then %d: kind %d, %d bytes, then %d, error %d", kind, n, len(rest), k, len(b), len(r), e)
				}
				frames++
			}
		}
	}
	if frames != 5*8*5 {
		t.Error(frames)
	}
}

// P2.2: the body and the rest are new memory, apart from each other, and the argument stays as it was.
func TestNextCopies(t *testing.T) {
	b := append(model(4, []byte("abc")), "rest"...)
	room := append(bytes.Clone(b), bytes.Repeat([]byte{77}, 40)...)
	kept := bytes.Clone(room)
	_, body, rest, _ := frame.Next(room[:len(b)])
	spoil(body)
	if string(rest) != "rest" || !bytes.Equal(room, kept) {
		t.Error("the body shares memory with", string(rest), "or with the argument")
	}
	_, body, rest, _ = frame.Next(room[:len(b)])
	spoil(rest)
	if string(body) != "abc" || !bytes.Equal(room, kept) {
		t.Error("the rest shares memory with", string(body), "or with the argument")
	}
	_, body, rest, _ = frame.Next(room[:len(b)])
	spoil(room)
	if string(body) != "abc" || string(rest) != "rest" {
		t.Error("the results follow a change of the argument")
	}
}

// changed is b with the byte at i combined with x.
func changed(b []byte, i int, x byte) []byte {
	b = bytes.Clone(b)
	b[i] ^= x
	return b
}

// P2.2: each error, and which comes first where several apply.
func TestNextRefuses(t *testing.T) {
	whole := model(3, []byte("ab"))
	tooLong := header(3, 8193)
	longest := append(header(3, 8192), sealed(make([]byte, 8192))...)
	for name, c := range map[string]struct {
		b    []byte
		want api.Errno
	}{
		"nothing":                         {nil, api.ErrShort},
		"one byte":                        {[]byte{90}, api.ErrShort},
		"short and no mark":               {[]byte{1, 2, 3, 4, 5, 6, 7}, api.ErrShort},
		"short by one":                    {header(3, 2)[:7], api.ErrShort},
		"no mark":                         {changed(whole, 0, 1), api.ErrForm},
		"no mark, but a sum":              {append(sealed([]byte{91, 3, 0, 0}), 0, 0, 0, 0), api.ErrForm},
		"no mark and no sum":              {make([]byte, 8), api.ErrForm},
		"the sum of the header":           {changed(whole, 7, 128), api.ErrSum},
		"the sum of the header, no body":  {changed(header(3, 2), 4, 1), api.ErrSum},
		"the sum of a header too long":    {changed(tooLong, 4, 1), api.ErrSum},
		"another kind":                    {changed(whole, 1, 1), api.ErrSum},
		"another length":                  {changed(whole, 3, 1), api.ErrSum},
		"the sum with its bytes reversed": {append([]byte{90, 3, 0, 2, whole[7], whole[6], whole[5], whole[4]}, whole[8:]...), api.ErrSum},
		"too long":                        {append(bytes.Clone(tooLong), sealed(make([]byte, 8193))...), api.ErrForm},
		"too long and short":              {tooLong, api.ErrForm},
		"much too long":                   {header(3, 65535), api.ErrForm},
		"no body":                         {header(3, 2), api.ErrShort},
		"no sum of an empty body":         {header(3, 0), api.ErrShort},
		"three bytes of that sum":         {append(header(3, 0), 0, 0, 0), api.ErrShort},
		"a sum that ends early":           {whole[:len(whole)-1], api.ErrShort},
		"a wrong body that ends early":    {changed(whole, 8, 1)[:len(whole)-1], api.ErrShort},
		"the sum of the body":             {changed(whole, len(whole)-1, 128), api.ErrSum},
		"the sum of an empty body":        {append(header(3, 0), 0, 0, 0, 1), api.ErrSum},
		"another body":                    {append(changed(whole, 9, 1), 5, 6), api.ErrSum},
		"the longest":                     {longest, api.OK},
		"the longest without its end":     {longest[:len(longest)-1], api.ErrShort},
		"the longest, wrong":              {changed(longest, 8199, 2), api.ErrSum},
	} {
		if c.want != api.OK {
			refused(t, name, c.b, c.want)
		} else if kind, _, _, e := frame.Next(c.b); kind != 3 || e != api.OK {
			t.Errorf("%s: kind %d, error %d", name, kind, e)
		}
	}
}

// P2.3: ends of frames, whatever follows them.
func TestWholeFinds(t *testing.T) {
	a, b, c := model(0, nil), model(255, []byte("abc")), model(90, pattern(8192))
	for name, x := range map[string]struct {
		b    []byte
		want []int
	}{
		"nothing":              {nil, nil},
		"no frame":             {[]byte("this is not a frame"), nil},
		"one byte":             {[]byte{90}, nil},
		"one":                  {a, []int{12}},
		"one with a rest":      {append(bytes.Clone(b), 0), []int{15}},
		"three":                {slices.Concat(a, b, c), []int{12, 27, 8231}},
		"in another order":     {slices.Concat(c, b, a), []int{8204, 8219, 8231}},
		"the same":             {slices.Concat(b, b, b), []int{15, 30, 45}},
		"then not":             {slices.Concat(a, b, []byte("no frame at all")), []int{12, 27}},
		"then a part":          {slices.Concat(a, b, c[:8203]), []int{12, 27}},
		"then a header":        {slices.Concat(a, b, c[:8]), []int{12, 27}},
		"then one too long":    {slices.Concat(a, header(3, 8193), sealed(make([]byte, 8193)), a), []int{12}},
		"a gap of one byte":    {slices.Concat(a, []byte{0}, b), []int{12}},
		"the first is broken":  {slices.Concat(changed(a, 9, 1), b), nil},
		"the second is broken": {slices.Concat(a, changed(b, 9, 1), a), []int{12}},
		"late":                 {slices.Concat([]byte{0}, a, b), nil},
		"a frame in a frame":   {model(1, slices.Concat(a, a)), []int{36}},
	} {
		kept := bytes.Clone(x.b)
		if got := frame.Whole(x.b); !slices.Equal(got, x.want) {
			t.Errorf("%s: %v, want %v", name, got, x.want)
		}
		if !bytes.Equal(x.b, kept) {
			t.Errorf("%s: the argument was changed", name)
		}
	}
}

// P2.3: as many frames as a medium holds are found in one pass.
func TestWholeOfMany(t *testing.T) {
	one := made(t, 0, nil)
	got := frame.Whole(bytes.Repeat(one, api.MaxMedium/len(one)))
	if len(got) != api.MaxMedium/12 {
		t.Fatal(len(got))
	}
	for i, end := range got {
		if end != 12*(i+1) {
			t.Fatalf("frame %d ends at %d", i, end)
		}
	}
}

// byNext is what Whole returns, found by Next.
func byNext(b []byte) []int {
	var ends []int
	for at := 0; ; {
		_, _, rest, e := frame.Next(b[at:])
		if e != api.OK {
			return ends
		}
		at = len(b) - len(rest)
		ends = append(ends, at)
	}
}

// P2.4: consecutive frames are found, whatever follows them; what was made is decoded.
func TestFramesInARow(t *testing.T) {
	seed := uint64(1)
	next := func(n int) int {
		seed = seed*6364136223846793005 + 1442695040888963407
		return int(seed>>33) % n
	}
	for range 200 {
		var b []byte
		var ends []int
		for range next(6) {
			b = append(b, made(t, next(256), pattern(next(40)))...)
			ends = append(ends, len(b))
		}
		junk := pattern(next(30))
		if len(junk) > 0 {
			junk[0] = byte(next(90)) // a frame begins otherwise
		}
		b = append(b, junk...)
		if got := frame.Whole(b); !slices.Equal(got, ends) || !slices.Equal(byNext(b), ends) {
			t.Fatalf("%v, by Next %v, want %v", got, byNext(b), ends)
		}
		for cut := range b {
			want := ends[:len(ends):len(ends)]
			for len(want) > 0 && want[len(want)-1] > cut {
				want = want[:len(want)-1]
			}
			if got := frame.Whole(b[:cut]); !slices.Equal(got, want) {
				t.Fatalf("truncated to %d bytes: %v, want %v", cut, got, want)
			}
		}
	}
}

// P2.4: a frame with one bit inverted, or truncated, is not a frame any more.
func TestSpoiltFrames(t *testing.T) {
	for _, n := range []int{0, 1, 2, 3, 127, 255, 256} {
		f := made(t, n%256, pattern(n))
		for i := range f {
			refused(t, "truncated", f[:i], api.ErrShort)
			for bit := range 8 {
				spoilt := append(changed(f, i, 1<<bit), made(t, 1, nil)...)
				want := api.ErrSum
				if i == 0 {
					want = api.ErrForm
				}
				refused(t, "inverted", spoilt, want)
				if ends := frame.Whole(spoilt); len(ends) != 0 {
					t.Errorf("bit %d of byte %d of %d: frames end at %v", bit, i, len(f), ends)
				}
			}
		}
	}
}

// P2.4: the same for the longest frame, at every byte in turn with another bit.
func TestSpoiltLongestFrame(t *testing.T) {
	f := made(t, 255, pattern(8192))
	for i := 1; i < len(f); i += 7 {
		refused(t, "truncated", f[:i], api.ErrShort)
		refused(t, "inverted", changed(f, i, 1<<(i%8)), api.ErrSum)
	}
}
