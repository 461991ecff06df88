// Package number: numbers in bytes, as states and frames have them.
package number

import "skirmish/api"

const (
	bits = 7         // that a byte carries
	more = 1 << bits // besides, in all bytes of a number but the last
	most = 5         // bytes of one number
)

// Append writes some numbers behind a text. They are 0 or above.
func Append(text []byte, numbers ...int) []byte {
	for _, n := range numbers {
		for n >= more {
			text = append(text, byte(n%more)|more)
			n /= more
		}
		text = append(text, byte(n))
	}
	return text
}

// Reader reads numbers from the front of a text, one after the other. It does not get past one that is wrong: from there on it reads noughts, so that it is enough to ask once, at the end, whether all were right.
type Reader struct {
	rest  string
	wrong bool
}

// NewReader is at the front of a text.
func NewReader(text string) *Reader {
	return &Reader{rest: text}
}

// Next reads a number.
func (r *Reader) Next() int {
	n, size := first(r.rest)
	r.wrong = r.wrong || size == 0
	r.rest = r.rest[size:]
	return n
}

// Right tells whether all numbers so far were right.
func (r *Reader) Right() bool {
	return !r.wrong
}

// Rest tells what is behind the numbers so far.
func (r *Reader) Rest() string {
	return r.rest
}

// Done tells whether all numbers were right and nothing is behind them.
func (r *Reader) Done() bool {
	return r.Right() && r.rest == ""
}

// first: the number that a text begins with, and how many bytes it has: none, if it is wrong.
func first(text string) (n, size int) {
	var sum uint64 // five bytes may tell more than an int of 32 bits holds
	for i := range min(len(text), most) {
		b := text[i]
		sum |= uint64(b%more) << (bits * i)
		if b >= more {
			continue
		}
		if b == 0 && i > 0 || sum > api.MaxNumber {
			return 0, 0
		}
		return int(sum), i + 1
	}
	return 0, 0
}
