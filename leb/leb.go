// Package leb is layer 1: see shared/doc/01-leb.md.
package leb

import (
	"math"

	"grommet/api"
)

const (
	group   = 7    // how many of a number's bits a byte has
	low     = 0x7f // these bits
	more    = 0x80 // the bit that tells that another byte follows
	sign    = 0x40 // the bit that all further ones are like, in the last byte of a number with a sign
	maxBits = 64
	padded  = 5 // as many bytes as it takes to hold 32 bits
)

// U reads a number without a sign: P1.1.
func U(b []byte, at, bits int) (uint64, int, error) {
	n, err := length(b, at, bits)
	if err != nil {
		return 0, 0, err
	}
	end := at + n
	if n == most(bits) && b[end-1]>>kept(bits) != 0 {
		return 0, 0, api.ErrForm
	}
	return join(b[at:end]), end, nil
}

// S reads one with a sign: P1.1.
func S(b []byte, at, bits int) (int64, int, error) {
	n, err := length(b, at, bits)
	if err != nil {
		return 0, 0, err
	}
	end := at + n
	last := b[end-1]
	if n == most(bits) && !even(last, kept(bits)) {
		return 0, 0, api.ErrForm
	}
	v := join(b[at:end])
	if last&sign != 0 {
		// A shift by 64 or more leaves 0, so ten bytes need no case of their own.
		v |= ^uint64(0) << (n * group)
	}
	return int64(v), end, nil
}

// PutU writes one without a sign: P1.2.
func PutU(v uint64) []byte {
	var b []byte
	for v > low {
		b = append(b, byte(v)|more)
		v >>= group
	}
	return append(b, byte(v))
}

// PutS writes one with a sign: P1.2.
func PutS(v int64) []byte {
	var b []byte
	for v < -sign || v >= sign {
		b = append(b, byte(v)|more)
		v >>= group
	}
	return append(b, byte(v)&low)
}

// Pad writes one in 5 bytes: P1.2.
func Pad(v uint64) ([]byte, error) {
	if v > math.MaxUint32 {
		return nil, api.ErrArg
	}
	b := make([]byte, padded)
	for i := range b {
		b[i] = byte(v) | more
		v >>= group
	}
	b[padded-1] &= low
	return b, nil
}

// length is how many bytes the number has that begins at a place, whatever its last byte's bits.
func length(b []byte, at, bits int) (int, error) {
	if bits < 1 || bits > maxBits || at < 0 || at > len(b) {
		return 0, api.ErrArg
	}
	rest := b[at:]
	for i, c := range rest[:min(len(rest), most(bits))] {
		if c < more {
			return i + 1, nil
		}
	}
	return 0, api.ErrForm
}

// most is how many bytes a number of so many bits has at most.
func most(bits int) int { return (bits + group - 1) / group }

// kept is how many bits count in the last one of as many bytes.
func kept(bits int) int { return bits - group*(most(bits)-1) }

// even tells whether all bits of a last byte are the same, from the highest of the first n on.
func even(c byte, n int) bool {
	top := c >> (n - 1)
	return top == 0 || top == byte(low)>>(n-1)
}

// join puts the bytes' bits together, those of the first byte lowest.
func join(b []byte) uint64 {
	var v uint64
	for i, c := range b {
		v |= uint64(c&low) << (i * group)
	}
	return v
}
