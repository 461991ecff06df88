package skirmish_test

import (
	"math"
	"reflect"
	"slices"
	"strings"
	"testing"

	"skirmish/api"
	"skirmish/skirmish"
)

// all: whatever a game tells.
type all struct {
	state  api.State
	people []api.Unit
	cells  api.Board
}

func told(g *skirmish.Game) all {
	return all{g.Look(), g.People(), g.Cells()}
}

// lively: a game in which there is something to do, and commands that are taken in it.
func lively(t *testing.T) (*skirmish.Game, commands, commands) {
	t.Helper()
	g := begun(t, "A..9.......B")
	played(t, g, raise(1, api.Worker), raise(2, api.Fighter))
	first := commands{{Unit: 3, What: api.Mine, X: 3, Target: 5}, {Unit: 1, What: api.Build, X: api.Worker, Y: 5}}
	second := commands{{Unit: 4, What: api.Hit, X: 5, Target: 3}, {Unit: 2, What: api.Build, X: api.Fighter}}
	return g, first, second
}

// P1: a game that New did not make is one with nobody in it.
func TestGamesThatNewDidNotMake(t *testing.T) {
	var none *skirmish.Game
	for _, g := range []*skirmish.Game{none, {}} {
		for range 2 {
			l := g.Play(commands{{Unit: 1}, {}}, commands{{Unit: 2, What: api.Move}})
			if !reflect.DeepEqual(l, [][]int{{0, 1}, {0}}) {
				t.Errorf("P1: Play = %v", l)
			}
			if w := g.Look(); w.Winner != 0 || w.Stocks != [2]int{} || len(g.People()) != 0 || g.Cells() != (api.Board{}) {
				t.Errorf("P1: %+v", told(g))
			}
		}
	}
}

// P1: with an error there is no game, and another game does not feel it.
func TestErrorsChangeNothing(t *testing.T) {
	g, _, _ := lively(t)
	before := told(g)
	for _, text := range []string{"", "A", strings.Repeat(".", 156), strings.Repeat("A", 10000000)} {
		if h, e := skirmish.New(text); h != nil || e != api.ErrMap {
			t.Errorf("P1: New(%.20q) = %v, %d", text, h, e)
		}
	}
	if !reflect.DeepEqual(told(g), before) {
		t.Errorf("P1: %+v, want %+v", told(g), before)
	}
}

// P1: commands that are refused change nothing but the turn's number.
func TestRefusedCommandsChangeNothing(t *testing.T) {
	g, _, _ := lively(t)
	before := told(g)
	var wrong commands
	for _, n := range []int{math.MinInt, -1, 12, 144, api.MaxNumber, api.MaxNumber + 1, math.MaxInt} {
		wrong = append(wrong,
			api.Command{Unit: n, What: api.None},
			api.Command{Unit: 3, What: n},
			api.Command{Unit: 4, What: n},
			api.Command{Unit: 3, What: api.Move, X: n},
			api.Command{Unit: 4, What: api.Move, Y: n},
			api.Command{Unit: 3, What: api.Mine, X: n, Y: n},
			api.Command{Unit: 4, What: api.Hit, Target: n},
			api.Command{Unit: 1, What: api.Build, X: n},
			api.Command{Unit: 2, What: api.Build, X: n},
		)
	}
	l := g.Play(wrong, wrong)
	if len(l) != 2 || len(l[0]) != len(wrong) || len(l[1]) != len(wrong) {
		t.Errorf("P1: refused: %v", l)
	}
	before.state.Turn++
	if !reflect.DeepEqual(told(g), before) {
		t.Errorf("P1: %+v, want %+v", told(g), before)
	}
}

func TestLongLists(t *testing.T) {
	g, _, _ := lively(t)
	first := slices.Repeat(commands{{Unit: 3, What: api.Move, X: 5, Y: 5}, {Unit: 9}}, 500000)
	l := g.Play(first, first)
	if len(l[0]) != 500000 || l[0][499999] != 999999 || len(l[1]) != 1000000 {
		t.Errorf("P1: %d and %d are refused", len(l[0]), len(l[1]))
	}
}

// P2: the lists that are handed in.
func TestListsThatComeIn(t *testing.T) {
	g, first, second := lively(t)
	twin, _, _ := lively(t)
	g.Play(slices.Clone(first), slices.Clone(second))
	mine, yours := slices.Clone(first), slices.Clone(second)
	twin.Play(mine, yours)
	if !slices.Equal(mine, first) || !slices.Equal(yours, second) {
		t.Errorf("P2: the lists are changed: %v, %v", mine, yours)
	}
	clear(mine)
	clear(yours)
	for range 30 {
		if !reflect.DeepEqual(told(g), told(twin)) {
			t.Fatalf("P2: the lists are kept: %+v, want %+v", told(twin), told(g))
		}
		g.Play(nil, nil)
		twin.Play(nil, nil)
	}
	g, _, _ = lively(t)
	same := commands{{Unit: 1}, {Unit: 2}, {Unit: 3}, {Unit: 4}}
	if l := g.Play(same, same); !reflect.DeepEqual(l, [][]int{{1, 3}, {0, 2}}) {
		t.Errorf("P2: one list for both: %v", l)
	}
}

// scribble: writes into a list and its spare room.
func scribble[T any](list []T, with T) {
	list = list[:cap(list)]
	for i := range list {
		list[i] = with
	}
}

// P2: the lists that come out.
func TestListsThatComeOut(t *testing.T) {
	g, first, second := lively(t)
	wrong := commands{{}, {Unit: 77}, {Unit: 3, What: 9}}
	old := g.Play(append(wrong, first...), append(wrong, second...))
	people := g.People()
	kept := slices.Clone(people)
	for range 5 {
		l := g.Play(wrong, wrong)
		if !reflect.DeepEqual(l, [][]int{{0, 1, 2}, {0, 1, 2}}) || !reflect.DeepEqual(old, l) {
			t.Errorf("P2: refused: %v, at first %v", l, old)
		}
		before := told(g)
		scribble(l[0], -7)
		if !slices.Equal(l[1], []int{0, 1, 2}) {
			t.Errorf("P2: the lists of one answer share room: %v", l)
		}
		scribble(l[1], -7)
		scribble(l, nil)
		scribble(g.People(), api.Unit{Id: 1, Life: -7})
		b := g.Cells()
		b[0][0] = -7
		if !reflect.DeepEqual(told(g), before) {
			t.Errorf("P2: written into: %+v, want %+v", told(g), before)
		}
	}
	if !slices.Equal(people, kept) {
		t.Errorf("P2: what came out before is changed: %+v, want %+v", people, kept)
	}
}

// P2: games do not feel each other, and not even a copy by value feels the one it was taken from.
func TestGamesAreApart(t *testing.T) {
	alone, first, second := lively(t)
	var want []all
	for range 30 {
		alone.Play(first, second)
		want = append(want, told(alone))
	}
	g, _, _ := lively(t)
	copied := *g
	other := begun(t, "9A9........B")
	for i := range 30 {
		other.Play(first, raise(2, api.Worker))
		g.Play(first, second)
		if !reflect.DeepEqual(told(g), want[i]) {
			t.Fatalf("P2: turn %d beside another game: %+v, want %+v", i, told(g), want[i])
		}
	}
	for i := range 30 {
		copied.Play(first, second)
		if !reflect.DeepEqual(told(&copied), want[i]) {
			t.Fatalf("P2: turn %d of a copy: %+v, want %+v", i, told(&copied), want[i])
		}
	}
}
