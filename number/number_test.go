package number

import (
	"encoding/binary"
	"strings"
	"testing"

	"skirmish/api"
)

func TestAppend(t *testing.T) {
	for _, c := range []struct {
		n    int
		want string
	}{
		{0, "\x00"}, {1, "\x01"}, {127, "\x7f"},
		{128, "\x80\x01"}, {129, "\x81\x01"}, {300, "\xac\x02"}, {16383, "\xff\x7f"},
		{16384, "\x80\x80\x01"}, {2097151, "\xff\xff\x7f"},
		{2097152, "\x80\x80\x80\x01"}, {268435455, "\xff\xff\xff\x7f"},
		{268435456, "\x80\x80\x80\x80\x01"}, {api.MaxNumber, "\x80\x94\xeb\xdc\x03"},
	} {
		if got := string(Append(nil, c.n)); got != c.want {
			t.Errorf("%d is told as %q, want %q", c.n, got, c.want)
		}
		r := NewReader(c.want)
		if n := r.Next(); n != c.n || !r.Done() {
			t.Errorf("%q is read as %d, done %v", c.want, n, r.Done())
		}
	}
	if got := string(Append([]byte("x"), 5, 128, 0)); got != "x\x05\x80\x01\x00" {
		t.Errorf("some numbers behind a text: %q", got)
	}
}

func TestWrongNumbers(t *testing.T) {
	for _, text := range []string{
		"", "\x80", "\xff", "\x80\x80\x80\x80", // cut
		"\x80\x00", "\x81\x00", "\xff\x80\x00", "\x80\x80\x80\x80\x00", // longer than need be
		"\x81\x94\xeb\xdc\x03", "\x80\x94\xeb\xdc\x04", "\xff\xff\xff\xff\x7f", "\xff\xff\xff\xff\x0f", // too great
		"\x80\x80\x80\x80\x80", "\x80\x80\x80\x80\x80\x00", "\x80\x80\x80\x80\x80\x01", "\xff\xff\xff\xff\xff\xff\xff\xff\xff\x01", // too long
		strings.Repeat("\x80", 1000000), strings.Repeat("\xff", 1000000),
	} {
		r := NewReader(text)
		if n := r.Next(); n != 0 || r.Done() {
			t.Errorf("%.20q is read as %d, done %v", text, n, r.Done())
		}
	}
}

func TestReader(t *testing.T) {
	r := NewReader("\x07\x80\x01\x00")
	for i, want := range []int{7, 128, 0} {
		if r.Done() || !r.Right() || r.Rest() != []string{"\x07\x80\x01\x00", "\x80\x01\x00", "\x00"}[i] {
			t.Errorf("ahead of number %d: done %v, right %v, rest %q", i, r.Done(), r.Right(), r.Rest())
		}
		if n := r.Next(); n != want {
			t.Errorf("number %d is %d, want %d", i, n, want)
		}
	}
	if !r.Done() {
		t.Error("not done at the end")
	}
	if n := r.Next(); n != 0 || r.Done() || r.Right() || r.Rest() != "" {
		t.Errorf("behind the end: %d, done %v, right %v, rest %q", n, r.Done(), r.Right(), r.Rest())
	}
}

// Behind a wrong number there are noughts, whatever stands there, and it is never done.
func TestReaderBehindAWrongNumber(t *testing.T) {
	r := NewReader("\x01\x80\x00\x05\x06")
	for i, want := range []int{1, 0, 0, 0, 0, 0} {
		if n := r.Next(); n != want || r.Done() || r.Right() != (i == 0) || r.Rest() != "\x80\x00\x05\x06" {
			t.Errorf("number %d is %d, want %d, done %v, right %v, rest %q", i, n, want, r.Done(), r.Right(), r.Rest())
		}
	}
}

// All texts of two bytes, against the library's numbers of this kind.
func TestShortTexts(t *testing.T) {
	for both := range 1 << 16 {
		text := string([]byte{byte(both), byte(both >> 8)})
		want, size := binary.Uvarint([]byte(text))
		right := size > 0 && string(binary.AppendUvarint(nil, want)) == text[:size]
		n, got := first(text)
		if right && (n != int(want) || got != size) || !right && (n != 0 || got != 0) {
			t.Fatalf("%q is read as %d of %d bytes", text, n, got)
		}
	}
}

// Texts of five bytes: the edges of each byte, against the library's.
func TestLongTexts(t *testing.T) {
	edges := []byte{0, 1, 2, 3, 4, 0x14, 0x5c, 0x6b, 0x7f, 0x80, 0x81, 0x93, 0x94, 0x95, 0xdb, 0xdc, 0xdd, 0xea, 0xeb, 0xec, 0xff}
	for _, a := range edges {
		for _, b := range edges {
			for _, c := range edges {
				for _, d := range edges {
					for _, e := range edges {
						text := []byte{a, b, c, d, e, 1}
						want, size := binary.Uvarint(text)
						right := size > 0 && size <= 5 && want <= api.MaxNumber && len(binary.AppendUvarint(nil, want)) == size
						n, got := first(string(text))
						if right && (n != int(want) || got != size) || !right && (n != 0 || got != 0) {
							t.Fatalf("%q is read as %d of %d bytes", text, n, got)
						}
					}
				}
			}
		}
	}
}
