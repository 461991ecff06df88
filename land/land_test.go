package land

import (
	"slices"
	"strings"
	"testing"

	"skirmish/api"
)

func TestNeighbours(t *testing.T) {
	for _, c := range []struct {
		of   Cell
		want []Cell
	}{
		{Cell{5, 5}, []Cell{{5, 4}, {6, 5}, {5, 6}, {4, 5}}},
		{Cell{0, 0}, []Cell{{1, 0}, {0, 1}}},
		{Cell{11, 0}, []Cell{{11, 1}, {10, 0}}},
		{Cell{11, 11}, []Cell{{11, 10}, {10, 11}}},
		{Cell{0, 11}, []Cell{{0, 10}, {1, 11}}},
		{Cell{0, 5}, []Cell{{0, 4}, {1, 5}, {0, 6}}},
	} {
		if l := c.of.Neighbours(); !slices.Equal(l, c.want) {
			t.Errorf("the neighbours of %v: %v, want %v", c.of, l, c.want)
		}
	}
}

func TestAdjacent(t *testing.T) {
	var all []Cell
	for y := range api.Side {
		for x := range api.Side {
			all = append(all, Cell{x, y})
		}
	}
	for _, a := range all {
		for _, b := range all {
			if a.Adjacent(b) != slices.Contains(a.Neighbours(), b) {
				t.Errorf("%v.Adjacent(%v) = %v", a, b, a.Adjacent(b))
			}
		}
	}
}

func TestReadMap(t *testing.T) {
	text := "A.#19......B\n" + strings.Repeat("............\n", 11)
	m, right := ReadMap(text)
	want := Map{Bases: [2]Cell{{0, 0}, {11, 0}}}
	want.Board[0][2], want.Board[0][3], want.Board[0][4] = api.Rock, 1, 9
	if !right || m != want {
		t.Errorf("ReadMap = %v, %v", m, right)
	}
	for _, wrong := range []string{"", text[1:], text + "\n", strings.Replace(text, "A", "B", 1), strings.Replace(text, "#", "0", 1)} {
		if m, right := ReadMap(wrong); right || m != (Map{}) {
			t.Errorf("ReadMap(%q) = %v, %v", wrong, m, right)
		}
	}
}

// stepOn: Step on a drawing: S the start, E the ends, # what is not free.
func stepOn(w Ways, lines ...string) Cell {
	sign := func(c Cell) byte {
		if c.Y < len(lines) && c.X < len(lines[c.Y]) {
			return lines[c.Y][c.X]
		}
		return '#'
	}
	var from Cell
	for y, l := range lines {
		if x := strings.IndexByte(l, 'S'); x >= 0 {
			from = Cell{x, y}
		}
	}
	free := func(c Cell) bool { return sign(c) == '.' || sign(c) == 'E' }
	ends := func(c Cell) bool { return sign(c) == 'E' }
	return w.Step(from, free, ends)
}

func TestStep(t *testing.T) {
	w := NewWays()
	for _, c := range []struct {
		name  string
		lines []string
		want  Cell
	}{
		{"beside", []string{"SE"}, Cell{1, 0}},
		{"above ahead of right", []string{"..E", "...", "S.."}, Cell{0, 1}},
		{"right ahead of below", []string{"S..", "...", "..E"}, Cell{1, 0}},
		{"below ahead of left", []string{"..S", "...", "E.."}, Cell{2, 1}},
		{"above ahead of left", []string{"E..", "...", "..S"}, Cell{2, 1}},
		{"the shorter one, though later in order", []string{".....", ".###.", ".#S..", ".##..", "..E.."}, Cell{3, 2}},
		{"the nearer end, though later in order", []string{"E....", ".....", "..S..", "..E.."}, Cell{2, 3}},
		{"two ends alike", []string{"..E..", ".....", "..S..", ".....", "..E.."}, Cell{2, 1}},
		{"the order counts at the first cell, not at the end", []string{"E..S..E"}, Cell{4, 0}},
		{"an end that is walled in", []string{"..#E", ".S##", "....", "#..#", "...."}, Cell{1, 1}},
		{"round", []string{".....", ".###.", ".#S#.", ".#.#.", "...#E"}, Cell{2, 3}},
		{"no way", []string{"S#E"}, Cell{0, 0}},
		{"no end", []string{"..", "S."}, Cell{0, 1}},
	} {
		if got := stepOn(w, c.lines...); got != c.want {
			t.Errorf("%s: to %v, want %v", c.name, got, c.want)
		}
		if len(w.begins) != 0 {
			t.Errorf("%s: %d cells are left of the search", c.name, len(w.begins))
		}
	}
}
