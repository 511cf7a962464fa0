// Package pack is layer 1: numbers in one, two, four or eight bytes, and texts and lists made of them (see shared/doc/01-pack.md).
package pack

import (
	"math/bits"

	"ferrule/api"
)

// The two highest bits of the first byte tell the length, so that a reader knows from one byte how many are to come.
const (
	sizes    = 4
	longest  = 1 << (sizes - 1)
	tagBits  = 2
	tagShift = 8 - tagBits
	lowBits  = 1<<tagShift - 1
)

// Size is how many bytes a number has.
func Size(v uint64) int {
	for tag := range sizes {
		size := 1 << tag
		if v>>(8*size-tagBits) == 0 {
			return size
		}
	}
	return 0
}

// Num are a number's bytes.
func Num(v uint64) (string, api.Errno) {
	size := Size(v)
	if size == 0 {
		return "", api.ErrBig
	}
	out := make([]byte, size)
	lay(out, v)
	return string(out), api.OK
}

// TakeNum takes one.
func TakeNum(s string) (uint64, string, api.Errno) {
	if s == "" {
		return 0, "", api.ErrMore
	}
	size := 1 << (s[0] >> tagShift)
	if len(s) < size {
		return 0, "", api.ErrMore
	}
	v := uint64(s[0] & lowBits)
	for i := 1; i < size; i++ {
		v = v<<8 | uint64(s[i])
	}
	// Only the shortest form counts: else a number would have several encodings.
	if Size(v) != size {
		return 0, "", api.ErrForm
	}
	return v, s[size:], api.OK
}

// Text are a text's bytes.
func Text(t string) (string, api.Errno) {
	if len(t) > api.MaxText {
		return "", api.ErrBig
	}
	size, e := Num(uint64(len(t)))
	return size + t, e
}

// TakeText takes one.
func TakeText(s string) (string, string, api.Errno) {
	size, rest, e := TakeNum(s)
	if e != api.OK {
		return "", "", e
	}
	if size > api.MaxText {
		return "", "", api.ErrBig
	}
	if uint64(len(rest)) < size {
		return "", "", api.ErrMore
	}
	return rest[:size], rest[size:], api.OK
}

// Nums are several numbers' bytes.
func Nums(l []uint64) (string, api.Errno) {
	count := uint64(len(l))
	total := Size(count)
	for _, v := range l {
		size := Size(v)
		if size == 0 {
			return "", api.ErrBig
		}
		total += size
	}
	out := make([]byte, total)
	at := lay(out, count)
	for _, v := range l {
		at += lay(out[at:], v)
	}
	return string(out), api.OK
}

// TakeNums takes several.
func TakeNums(s string, most int) ([]uint64, string, api.Errno) {
	count, rest, e := TakeNum(s)
	if e != api.OK {
		return nil, "", e
	}
	if most < 0 || count > uint64(most) {
		return nil, "", api.ErrBig
	}
	return takeEach(rest, count, TakeNum)
}

// lay puts a number's bytes at the beginning of out, and answers how many they are: none if it is above MaxNum.
func lay(out []byte, v uint64) int {
	size := Size(v)
	var b [longest]byte
	for i := range size {
		b[i] = byte(v >> (8 * (size - 1 - i)))
	}
	b[0] |= byte(bits.TrailingZeros(uint(size)) << tagShift)
	return copy(out, b[:size])
}

// takeEach takes so many items, one behind another.
func takeEach[T any](s string, count uint64, take func(string) (T, string, api.Errno)) ([]T, string, api.Errno) {
	// The list grows with what is found: count is no more than what the bytes claim, and may be huge.
	var l []T
	for range count {
		item, rest, e := take(s)
		if e != api.OK {
			return nil, "", e
		}
		l = append(l, item)
		s = rest
	}
	return l, s, api.OK
}
