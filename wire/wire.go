// Package wire is layer 1: it encodes integers and byte strings in fields of
// fixed width, and decodes them with a reader that keeps its first error.
package wire

import "terrazzo/api"

const (
	maxWidth  = 7 // the largest number of 7 bytes still fits an int
	blobCount = 2 // width of the length of a blob
	numsCount = 1 // width of the length of a list of numbers
)

// Num returns b followed by the encoding of n.
func Num(b []byte, width int, n int) []byte {
	width = fitWidth(width)
	return putNum(extend(b, width), width, n)
}

// Blob returns b followed by the encoding of the byte string x.
func Blob(b []byte, x []byte) []byte {
	x = x[:min(len(x), largest(blobCount))]
	out := putNum(extend(b, blobCount+len(x)), blobCount, len(x))
	return append(out, x...)
}

// Nums returns b followed by the encoding of the list l of numbers of a width.
func Nums(b []byte, width int, l []int) []byte {
	width = fitWidth(width)
	l = l[:min(len(l), largest(numsCount))]
	out := putNum(extend(b, numsCount+len(l)*width), numsCount, len(l))
	for _, n := range l {
		out = putNum(out, width, n)
	}
	return out
}

// Reader decodes fields one after the other, up to the first error.
type Reader struct {
	rest []byte
	err  api.Errno
}

// Read returns a Reader at the beginning of b. It copies b, so that the caller
// may change b while the Reader is in use.
func Read(b []byte) *Reader {
	return &Reader{rest: extend(b, 0)}
}

// Num decodes a number of a width.
func (r *Reader) Num(width int) int {
	if r.Err() != api.OK {
		return 0
	}
	digits, rest, _ := split(r.rest, fitWidth(width), r.Fail)
	r.rest = rest
	return number(digits)
}

// Blob decodes a byte string of at most so many bytes.
func (r *Reader) Blob(most int) []byte {
	if r.Err() != api.OK {
		return nil
	}
	body, rest := counted(r.rest, blobCount, 1, most, r.Fail)
	r.rest = rest
	return extend(body, 0)
}

// Nums decodes a list of at most so many numbers of a width.
func (r *Reader) Nums(width, most int) []int {
	if r.Err() != api.OK {
		return nil
	}
	width = fitWidth(width)
	items, rest := counted(r.rest, numsCount, width, most, r.Fail)
	r.rest = rest
	var l []int
	for i := range len(items) / width {
		l = append(l, number(items[i*width:(i+1)*width]))
	}
	return l
}

// Fail makes e the error if there is none yet.
func (r *Reader) Fail(e api.Errno) {
	if r != nil && r.err == api.OK {
		r.err = e
	}
}

// Left returns the number of bytes that are left, or 0 if there is an error.
func (r *Reader) Left() int {
	if r.Err() != api.OK {
		return 0
	}
	return len(r.rest)
}

// Err returns the first error, or OK if there is none.
func (r *Reader) Err() api.Errno {
	if r == nil {
		return api.ErrArg
	}
	return r.err
}

// End fails if bytes are left, and returns the first error.
func (r *Reader) End() api.Errno {
	if r.Left() > 0 {
		r.Fail(api.ErrForm)
	}
	return r.Err()
}

// fitWidth returns the width that a width argument counts as.
func fitWidth(width int) int {
	return min(max(width, 1), maxWidth)
}

// largest returns the maximum of the numbers of a width.
func largest(width int) int {
	return 1<<(8*width) - 1
}

// extend returns a copy of b with capacity for n more bytes.
func extend(b []byte, n int) []byte {
	out := make([]byte, len(b), len(b)+n)
	copy(out, b)
	return out
}

// putNum appends the bytes of n, most significant byte first.
func putNum(b []byte, width, n int) []byte {
	n = min(max(n, 0), largest(width))
	for i := range width {
		b = append(b, byte(n>>(8*(width-1-i))))
	}
	return b
}

// number returns the number that digits encode; of no digits it is 0.
func number(digits []byte) int {
	n := 0
	for _, d := range digits {
		n = n<<8 | int(d)
	}
	return n
}

// split parts b after its first n bytes. If b has fewer, it passes ErrShort to
// fail and leaves b whole.
func split(b []byte, n int, fail func(api.Errno)) (front, rest []byte, ok bool) {
	if len(b) < n {
		fail(api.ErrShort)
		return nil, b, false
	}
	return b[:n], b[n:], true
}

// counted parts b after a field that consists of a count and so many items. A
// field that fails leaves b whole. The count is compared with most before the
// items are looked for: a field that is too long is ErrForm even if truncated.
func counted(b []byte, countWidth, itemWidth, most int, fail func(api.Errno)) (items, rest []byte) {
	digits, body, ok := split(b, countWidth, fail)
	if !ok {
		return nil, b
	}
	count := number(digits)
	if count > max(most, 0) {
		fail(api.ErrForm)
		return nil, b
	}
	items, rest, ok = split(body, count*itemWidth, fail)
	if !ok {
		return nil, b
	}
	return items, rest
}
