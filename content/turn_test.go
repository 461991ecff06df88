package content

import (
	"encoding/binary"
	"math"
	"reflect"
	"slices"
	"strings"
	"testing"

	"skirmish/api"
)

func numbers(list ...uint64) string {
	var b []byte
	for _, n := range list {
		b = binary.AppendUvarint(b, n)
	}
	return string(b)
}

func TestTurn(t *testing.T) {
	for _, c := range []struct {
		turn Turn
		want string
	}{
		{Turn{}, "\x00\x00\x00"},
		{Turn{Number: 300, First: []api.Command{{Unit: 1, What: 2, X: 3, Y: 4, Target: 5}}}, "\xac\x02\x01\x01\x02\x03\x04\x05\x00"},
		{Turn{Number: 1, Second: []api.Command{{}, {Unit: 128, Target: api.MaxNumber}}}, "\x01\x00\x02\x00\x00\x00\x00\x00\x80\x01\x00\x00\x00\x80\x94\xeb\xdc\x03"},
		{Turn{Number: api.MaxNumber, First: []api.Command{{Unit: 9}}, Second: []api.Command{{X: 7}}}, "\x80\x94\xeb\xdc\x03\x01\x09\x00\x00\x00\x00\x01\x00\x00\x07\x00\x00"},
	} {
		text, fits := TellTurn(c.turn)
		if text != c.want || !fits {
			t.Errorf("P6: %+v is told as %q, %v, want %q", c.turn, text, fits, c.want)
		}
		if turn, right := ReadTurn(c.want); !right || !reflect.DeepEqual(turn, c.turn) {
			t.Errorf("P9: %q is read as %+v, %v", c.want, turn, right)
		}
	}
}

// A number that cannot be written, at each place of a command.
func TestCommandsThatCannotBeWritten(t *testing.T) {
	for place := range 5 {
		for _, n := range []int{math.MinInt, -api.MaxNumber, -1, 0, api.MaxNumber, api.MaxNumber + 1, math.MaxInt32, math.MaxInt} {
			list := []int{1, 1, 1, 1, 1}
			list[place] = n
			c := api.Command{Unit: list[0], What: list[1], X: list[2], Y: list[3], Target: list[4]}
			given := []api.Command{{Unit: 5}, c, {Unit: 6}}
			kept := slices.Clone(given)
			want := c
			if n < 0 || n > api.MaxNumber {
				want = api.Command{}
			}
			text, fits := TellTurn(Turn{First: given, Second: given})
			turn, right := ReadTurn(text)
			if !fits || !right || !slices.Equal(turn.First, []api.Command{{Unit: 5}, want, {Unit: 6}}) || !slices.Equal(turn.First, turn.Second) {
				t.Errorf("P6: %+v is told as %q: %+v", c, text, turn)
			}
			if !slices.Equal(given, kept) {
				t.Errorf("P2: the list is changed: %+v, want %+v", given, kept)
			}
		}
	}
}

func TestTurnsThatAreTooLong(t *testing.T) {
	long := make([]api.Command, 7999) // with the number and the counts 39999 bytes
	for _, c := range []struct {
		turn Turn
		size int // 0: too long
	}{
		{Turn{First: long}, 39999},
		{Turn{Second: long}, 39999},
		{Turn{Number: 127, First: long}, 39999},
		{Turn{Number: 128, First: long}, 40000},
		{Turn{Number: 16384, First: long}, 0},
		{Turn{First: long[:7998], Second: long[:1]}, 39999},
		{Turn{First: long[:7871], Second: long[:128]}, 40000},
		{Turn{Number: 128, First: long[:7871], Second: long[:128]}, 0},
		{Turn{First: slices.Repeat([]api.Command{{Unit: math.MaxInt}}, 7999)}, 39999},
		{Turn{First: slices.Repeat([]api.Command{{Unit: api.MaxNumber}}, 7999)}, 0},
		{Turn{First: slices.Concat(long[:7998], []api.Command{{Y: 128}})}, 40000},
		{Turn{First: slices.Concat(long[:7998], []api.Command{{Y: 128, X: 128}})}, 0},
		{Turn{First: make([]api.Command, 8000)}, 0},
		{Turn{First: make([]api.Command, 4000), Second: make([]api.Command, 4000)}, 0},
		{Turn{First: make([]api.Command, 8001)}, 0},
		{Turn{Second: make([]api.Command, 1000000)}, 0},
	} {
		text, fits := TellTurn(c.turn)
		if len(text) != c.size || fits != (c.size > 0) {
			t.Errorf("P6: %d and %d commands in turn %d: %d bytes, %v, want %d", len(c.turn.First), len(c.turn.Second), c.turn.Number, len(text), fits, c.size)
		}
	}
}

func TestWrongTurns(t *testing.T) {
	right := numbers(300, 1, 1, 2, 3, 400, 5, 2, 0, 0, 0, 0, 0, 9, 8, 7, 6, 1000000000)
	if _, fine := ReadTurn(right); !fine {
		t.Fatalf("P9: %q is not read", right)
	}
	texts := []string{
		right + "\x00", right + right, "",
		numbers(0), numbers(0, 0), numbers(0, 0, 0, 0), numbers(0, 1, 0), numbers(0, 0, 1), numbers(0, 1, 1, 1, 1, 1),
		numbers(0, 1, 0, 0, 0, 0, 0, 0, 0), numbers(0, 0, 1, 0, 0, 0, 0), numbers(0, 0, 1, 0, 0, 0, 0, 0, 0),
		numbers(1000000001, 0, 0), numbers(0, 1000000001, 0), numbers(0, 0, 1000000000), numbers(0, 1000000000, 0), numbers(0, 1<<34, 0),
		numbers(0, 1, 1000000001, 0, 0, 0, 0, 0), numbers(0, 1, 0, 0, 0, 0, 1000000001, 0), numbers(0, 0, 1, 0, 0, 1<<35-1, 0, 0),
		"\x80\x00\x00\x00", "\x00\x80\x00\x00", "\x00\x00\x80\x00", "\x00\x01\x81\x00\x00\x00\x00\x00\x00",
		strings.Repeat("\x80", 40000), strings.Repeat("\x01", 40000), numbers(0, 1000000000) + strings.Repeat("\x01", 40000),
	}
	for place := range right {
		texts = append(texts, right[:place])
	}
	for _, text := range texts {
		if turn, fine := ReadTurn(text); fine || !reflect.DeepEqual(turn, Turn{}) {
			t.Errorf("P9: %.40q is read as %+v, %v", text, turn, fine)
		}
	}
}
