package frame

import (
	"encoding/binary"
	"hash/crc32"
	"math/rand/v2"
	"strings"
	"testing"

	"skirmish/api"
)

// checked: a text with its check behind it, as the library works it out.
func checked(text string) string {
	return string(binary.LittleEndian.AppendUint32([]byte(text), crc32.ChecksumIEEE([]byte(text))))
}

// framed: a frame with any bytes for its length.
func framed(sort byte, size, content string) string {
	return checked("K" + string([]byte{sort}) + size + content)
}

func sizeOf(content string) string {
	return string(binary.AppendUvarint(nil, uint64(len(content))))
}

func TestCheck(t *testing.T) {
	for text, want := range map[string]string{
		"":          "\x00\x00\x00\x00",
		"123456789": "\x26\x39\xf4\xcb",
		"a":         "\x43\xbe\xb7\xe8",
		"\x00":      "\x8d\xef\x02\xd2",
		"The quick brown fox jumps over the lazy dog": "\x39\xa3\x4f\x41",
	} {
		if got := check(text); got != want {
			t.Errorf("the check of %q is %x, want %x", text, got, want)
		}
	}
	r := rand.New(rand.NewPCG(1, 2))
	for size := range 300 {
		b := make([]byte, size)
		for i := range b {
			b[i] = byte(r.Uint32())
		}
		if got := check(string(b)); got != string(binary.LittleEndian.AppendUint32(nil, crc32.ChecksumIEEE(b))) {
			t.Errorf("the check of %x is %x", b, got)
		}
	}
}

func TestTell(t *testing.T) {
	if got, want := Tell(Turn, "\x00\x00\x00"), "K\x01\x03\x00\x00\x00\x52\xdd\x88\xfb"; got != want {
		t.Errorf("a turn without commands: %q, want %q", got, want)
	}
	for _, size := range []int{0, 1, 127, 128, 16383, 16384, api.MaxContent} {
		for _, sort := range []byte{Turn, State} {
			content := strings.Repeat("x", size)
			text := Tell(sort, content)
			if text != framed(sort, sizeOf(content), content) {
				t.Errorf("%d bytes: %.40q", size, text)
			}
			for _, behind := range []string{"", "K", text, "\x00\x00\x00\x00"} {
				got, rest, right := Cut(text+behind, sort)
				if !right || got != content || rest != behind {
					t.Errorf("%d bytes are read as %.20q, rest %.20q, %v", size, got, rest, right)
				}
			}
		}
	}
}

// wrong: what is no right frame tells nothing.
func wrong(t *testing.T, text string, sort byte) {
	t.Helper()
	if content, rest, right := Cut(text, sort); right || content != "" || rest != "" {
		t.Errorf("%.40q is read as %.20q, rest %.20q, %v", text, content, rest, right)
	}
}

func TestCutAndChangedFrames(t *testing.T) {
	for _, content := range []string{"", "a", "\x00\x01\x02", strings.Repeat("y", 200)} {
		text := Tell(Turn, content)
		for place := range text {
			wrong(t, text[:place], Turn)
			wrong(t, text[place+1:], Turn)
			for b := range 256 {
				if byte(b) != text[place] {
					wrong(t, text[:place]+string([]byte{byte(b)})+text[place+1:], Turn)
				}
			}
		}
	}
}

func TestSorts(t *testing.T) {
	for sort := range 256 {
		for _, want := range []byte{Turn, State} {
			text := framed(byte(sort), "\x01", "z")
			if _, _, right := Cut(text, want); right != (byte(sort) == want) {
				t.Errorf("a frame of sort %d, where %d is asked for: %v", sort, want, right)
			}
		}
	}
}

// The check of all of these is right.
func TestHeads(t *testing.T) {
	for _, head := range []string{"", "K", "\x01", "k\x01", "L\x01", "\x01K", "KK\x01", "\x00K\x01"} {
		wrong(t, checked(head+"\x01z"), Turn)
		wrong(t, checked(head+"\x00"), Turn)
		wrong(t, checked(head), Turn)
	}
}

// And of these.
func TestLengths(t *testing.T) {
	wrong(t, framed(Turn, "\x81\x00", "z"), Turn)
	wrong(t, framed(Turn, "\x80\x00", ""), Turn)
	wrong(t, framed(Turn, "\x81\x80\x80\x80\x80\x00", "z"), Turn)
	for sort := range 256 { // no length at all
		wrong(t, framed(byte(sort), "", ""), byte(sort))
	}
	wrong(t, framed(Turn, "\x02", "z"), Turn)
	wrong(t, framed(Turn, "\x00", "z"), Turn)
	wrong(t, framed(Turn, "\xff\xff\xff\xff\x7f", "z"), Turn)
	wrong(t, framed(Turn, "\x80\x94\xeb\xdc\x03", "z"), Turn)
	for _, size := range []int{api.MaxContent + 1, api.MaxContent + 2, 1 << 20} {
		content := strings.Repeat("z", size)
		wrong(t, framed(Turn, sizeOf(content), content), Turn)
	}
}

func TestTextsThatAreNoFrames(t *testing.T) {
	for _, text := range []string{"", "K", "K\x01", "K\x01\x00", "k\x01\x00\x00\x00\x00\x00", "K\x01\x80", strings.Repeat("K", 1000000), strings.Repeat("K\x01", 1000000), "K\x01" + strings.Repeat("\x80", 1000000), strings.Repeat("\x00", 1000000)} {
		wrong(t, text, Turn)
		wrong(t, text, State)
	}
}
