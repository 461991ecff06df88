package content

import (
	"reflect"
	"strings"
	"testing"

	"skirmish/api"
	"skirmish/rules"
)

func someGame(t *testing.T) rules.Game {
	t.Helper()
	g, right := rules.New("A..9.......B\n" + strings.Repeat("............\n", 11))
	if !right {
		t.Fatal("no map")
	}
	g.Turn, g.Next, g.Stocks = 300, 1000, [2]int{api.MaxNumber, 128}
	g.People = append(g.People,
		api.Unit{Id: 5, Kind: api.Worker, X: 1, Y: 2, Life: 7, Load: 4, What: api.Mine, ToX: 3},
		api.Unit{Id: 999, Owner: 1, Kind: api.Fighter, X: 6, Y: 1, Life: 11, What: api.Hit, Target: 5})
	return g
}

func TestState(t *testing.T) {
	g := someGame(t)
	text := TellState(g)
	want := "\xac\x02\x00\x80\x94\xeb\xdc\x03\x80\x01\xe8\x07" + "\x00\x00\x00\x09" + strings.Repeat("\x00", 140) + "\x04" +
		"\x01\x00\x01\x00\x00\x28\x00\x00\x00\x00\x00" + "\x02\x01\x01\x0b\x00\x28\x00\x00\x00\x00\x00" +
		"\x05\x00\x02\x01\x02\x07\x04\x02\x03\x00\x00" + "\xe7\x07\x01\x03\x06\x01\x0b\x00\x03\x00\x00\x05"
	if text != want {
		t.Errorf("P4: told %q, want %q", text, want)
	}
	h, right := ReadState(text)
	if !right || !reflect.DeepEqual(h, g) {
		t.Errorf("P4: read %+v, %v, want %+v", h, right, g)
	}
}

// A text that is wrong leaves nothing of what was read.
func TestWrongState(t *testing.T) {
	g := someGame(t)
	text := TellState(g)
	for _, wrong := range []string{"", text[:100], text[:len(text)-1], text + "\x00", strings.Replace(text, "\x28", "\x29", 1)} {
		if h, right := ReadState(wrong); right || !reflect.DeepEqual(h, rules.Game{}) {
			t.Errorf("P4: read %+v, %v", h, right)
		}
	}
	for i := range 97 {
		g.People = append(g.People, api.Unit{Id: 1000 + i, Kind: api.Worker, X: i % 12, Y: 11 - i/12, Life: 8})
		g.Next = 2000
		_, right := ReadState(TellState(g))
		if right != (len(g.People) <= api.MaxPeople) {
			t.Errorf("P4: %d people: %v", len(g.People), right)
		}
	}
}
