// Package arx is layer 1, ChaCha20, the block and the stream: see shared/doc/01-arx.md.
package arx

import (
	"iter"
	"math/bits"

	"sphragis/api"
)

const (
	wordSize  = 4
	blockSize = 64
	rounds    = 10
	counterAt = 12 // the place of the counter among a state's words
)

// The texts that say those words of a state that neither a key nor a nonce does.
const (
	opening = "expand 32-byte k"
	nought  = "\x00\x00\x00\x00"
)

// turns are the places of the words of a round's quarter turns: the columns, then the diagonals.
var turns = [8][4]int{
	{0, 4, 8, 12}, {1, 5, 9, 13}, {2, 6, 10, 14}, {3, 7, 11, 15},
	{0, 5, 10, 15}, {1, 6, 11, 12}, {2, 7, 8, 13}, {3, 4, 9, 14},
}

// state is the sixteen words that a block is made of.
type state [16]uint32

// Quarter is the quarter turn of four words.
func Quarter(a uint32, b uint32, c uint32, d uint32) [4]uint32 {
	a += b
	d = bits.RotateLeft32(d^a, 16)
	c += d
	b = bits.RotateLeft32(b^c, 12)
	a += b
	d = bits.RotateLeft32(d^a, 8)
	c += d
	b = bits.RotateLeft32(b^c, 7)
	return [4]uint32{a, b, c, d}
}

// Block is the block of a key, a counter and a nonce.
func Block(key string, counter uint32, nonce string) (string, api.Errno) {
	if !fit(key, nonce) {
		return "", api.ErrArg
	}
	out := make([]byte, 0, blockSize)
	for _, w := range begin(key, nonce).at(counter).block() {
		out = append(out, byte(w), byte(w>>8), byte(w>>16), byte(w>>24))
	}
	return string(out), api.OK
}

// Xor is s under the stream of a key and a nonce; done again, it is s.
func Xor(key string, nonce string, s string) (string, api.Errno) {
	if !fit(key, nonce) || len(s) > api.MaxText {
		return "", api.ErrArg
	}
	out := make([]byte, 0, len(s))
done:
	for w := range begin(key, nonce).stream(len(s)) {
		for range wordSize {
			if len(out) == len(s) {
				break done
			}
			out = append(out, s[len(out)]^byte(w))
			w >>= 8
		}
	}
	return string(out), api.OK
}

// fit tells whether a key and a nonce have their sizes.
func fit(key string, nonce string) bool {
	return len(key) == api.KeySize && len(nonce) == api.NonceSize
}

// begin is the state of a key and a nonce that fit, at the counter 0.
func begin(key string, nonce string) state {
	return fill(opening, key, nought, nonce)
}

// fill is the state whose words the texts say, one behind the other.
func fill(texts ...string) state {
	var s state
	n := 0
full:
	for w := range words(texts...) {
		s[n] = w
		if n++; n == len(s) {
			break full
		}
	}
	return s
}

// words are those that each text says, four bytes a word, the least first.
func words(texts ...string) iter.Seq[uint32] {
	return func(yield func(uint32) bool) {
		for _, t := range texts {
			for ; len(t) >= wordSize; t = t[wordSize:] {
				if !yield(uint32(t[0]) | uint32(t[1])<<8 | uint32(t[2])<<16 | uint32(t[3])<<24) {
					return
				}
			}
		}
	}
}

// at is the state with another counter.
func (s state) at(counter uint32) state {
	s[counterAt] = counter
	return s
}

// block is the state, turned in a copy, since the words that it had are laid to those that come out.
func (s state) block() state {
	var b state
	copy(b[:], s[:])
	for range rounds {
		b.round()
	}
	for i, w := range s {
		b[i] += w
	}
	return b
}

// round does a round's quarter turns in the place.
func (s *state) round() {
	for _, t := range turns {
		q := Quarter(s[t[0]], s[t[1]], s[t[2]], s[t[3]])
		s[t[0]], s[t[1]], s[t[2]], s[t[3]] = q[0], q[1], q[2], q[3]
	}
}

// stream are the words of as many blocks, of the counters 0, 1, 2, .., as n bytes need.
func (s state) stream(n int) iter.Seq[uint32] {
	return func(yield func(uint32) bool) {
		for counter := range uint32((n + blockSize - 1) / blockSize) {
			for _, w := range s.at(counter).block() {
				if !yield(w) {
					return
				}
			}
		}
	}
}
