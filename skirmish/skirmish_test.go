package skirmish_test

import (
	"math"
	"reflect"
	"slices"
	"strings"
	"testing"

	"skirmish/api"
	"skirmish/skirmish"
)

type commands = []api.Command

// mapOf: some lines, and ground below them.
func mapOf(lines ...string) string {
	var b strings.Builder
	for y := range api.Side {
		l := ""
		if y < len(lines) {
			l = lines[y]
		}
		b.WriteString(l + strings.Repeat(".", api.Side-len(l)) + "\n")
	}
	return b.String()
}

func begun(t *testing.T, lines ...string) *skirmish.Game {
	t.Helper()
	g, e := skirmish.New(mapOf(lines...))
	if g == nil || e != api.OK {
		t.Fatalf("P3: New(%q) = %v, %d", lines, g, e)
	}
	return g
}

// played: a turn of which nothing is refused.
func played(t *testing.T, g *skirmish.Game, first, second commands) {
	t.Helper()
	if l := g.Play(first, second); len(l) != 2 || len(l[0])+len(l[1]) > 0 {
		t.Errorf("P3: Play(%v, %v) refuses %v", first, second, l)
	}
}

func one(t *testing.T, g *skirmish.Game, id int) api.Unit {
	t.Helper()
	for _, u := range g.People() {
		if u.Id == id {
			return u
		}
	}
	t.Fatalf("P3: %d is not there: %+v", id, g.People())
	return api.Unit{}
}

// goes: one is there behind each of some turns.
func goes(t *testing.T, g *skirmish.Game, id int, cells ...[2]int) {
	t.Helper()
	for i, c := range cells {
		played(t, g, nil, nil)
		if u := one(t, g, id); u.X != c[0] || u.Y != c[1] {
			t.Fatalf("P3: turn %d: at %d, %d, want %v", i, u.X, u.Y, c)
		}
	}
}

func raise(base, kind int) commands {
	return commands{{Unit: base, What: api.Build, X: kind}}
}

// isMap: what a map is, said in another way than the program says it.
func isMap(text string) bool {
	lines := strings.SplitAfter(text, "\n")
	if len(lines) != 13 || lines[12] != "" || strings.Count(text, "A") != 1 || strings.Count(text, "B") != 1 {
		return false
	}
	for _, l := range lines[:12] {
		if len(l) != 13 || strings.Trim(l, ".#123456789AB") != "\n" {
			return false
		}
	}
	return true
}

func TestMapsWithOneByteChanged(t *testing.T) {
	right := mapOf("A#19.......B", "............", "####")
	for place := range right {
		for b := range 256 {
			text := right[:place] + string([]byte{byte(b)}) + right[place+1:]
			g, e := skirmish.New(text)
			if isMap(text) != (e == api.OK) || (g != nil) != (e == api.OK) || e != api.OK && e != api.ErrMap {
				t.Fatalf("P3: New of a map with the byte %d at %d = %v, %d", b, place, g, e)
			}
		}
	}
}

func TestTextsThatAreNoMaps(t *testing.T) {
	right := mapOf("A..........B")
	for _, text := range []string{
		"", "A", "\n", "AB", right[1:], right[:155], right + ".", right + "\n", "\n" + right, right + right,
		strings.ReplaceAll(right, "\n", ""), strings.ReplaceAll(right, "\n", "\r\n"), strings.Repeat("\n", 156),
		strings.ToLower(right), strings.Repeat("é", 78), mapOf("A"), mapOf("", "B"), mapOf(".A", "A.", "B"), mapOf("AB", ".B"),
		strings.Repeat("A", 1000000), strings.Repeat(right, 10000), "\xff\xfe" + right[2:],
		strings.Replace(right, "\n.", ".\n", 1), strings.Replace(right, ".\n", "\n.", 1), mapOf("A..........B", "...........0"),
	} {
		if g, e := skirmish.New(text); g != nil || e != api.ErrMap {
			t.Errorf("P3: New(%.40q, %d bytes) = %v, %d", text, len(text), g, e)
		}
	}
}

func TestNewGame(t *testing.T) {
	g := begun(t, "#123456789..", "...........B", "A")
	if s := g.Look(); s != (api.State{Stocks: [2]int{10, 10}}) {
		t.Errorf("P3: Look() = %+v", s)
	}
	want := []api.Unit{
		{Id: 1, Owner: 0, Kind: api.Base, X: 0, Y: 2, Life: 40},
		{Id: 2, Owner: 1, Kind: api.Base, X: 11, Y: 1, Life: 40},
	}
	if l := g.People(); !slices.Equal(l, want) {
		t.Errorf("P3: People() = %+v", l)
	}
	var cells api.Board
	cells[0] = [api.Side]int{api.Rock, 1, 2, 3, 4, 5, 6, 7, 8, 9}
	if b := g.Cells(); b != cells {
		t.Errorf("P3: Cells() = %v", b)
	}
}

// taken: when a command is taken in the game of TestCommands, said number by number.
func taken(player int, c api.Command) bool {
	onBoard := c.X >= 0 && c.X <= 11 && c.Y >= 0 && c.Y <= 11
	rock := c.X == 3 && c.Y == 0
	ore := c.X == 2 && c.Y == 0
	switch [2]int{player, c.Unit} {
	case [2]int{0, 1}, [2]int{1, 2}: // the bases
		return c.What == 0 || c.What == 4 && (c.X == 2 || c.X == 3)
	case [2]int{0, 3}: // a worker
		return c.What == 0 || c.What == 1 && onBoard && !rock || c.What == 2 && onBoard && ore
	case [2]int{1, 4}: // a fighter
		return c.What == 0 || c.What == 1 && onBoard && !rock || c.What == 3 && (c.Target == 1 || c.Target == 3)
	}
	return false
}

func TestCommands(t *testing.T) {
	numbers := []int{math.MinInt, -1, 0, 1, 2, 3, 4, 5, 11, 12, api.MaxNumber, api.MaxNumber + 1, math.MaxInt}
	var list commands
	for _, unit := range numbers {
		for _, what := range numbers {
			for _, x := range numbers {
				for _, y := range numbers {
					for _, target := range []int{math.MinInt, -1, 0, 1, 2, 3, 4, 5, math.MaxInt} {
						list = append(list, api.Command{Unit: unit, What: what, X: x, Y: y, Target: target})
					}
				}
			}
		}
	}
	g := begun(t, "A.5#.......B")
	played(t, g, raise(1, api.Worker), raise(2, api.Fighter))
	refused := g.Play(list, list)
	for player := range 2 {
		var want []int
		for place, c := range list {
			if !taken(player, c) {
				want = append(want, place)
			}
		}
		if !slices.Equal(refused[player], want) {
			t.Errorf("P3: of player %d %d are refused, want %d", player, len(refused[player]), len(want))
		}
	}
}

func TestWhatAnOrderDoesNotUse(t *testing.T) {
	g := begun(t, "A.........5B", "", "5")
	played(t, g, raise(1, api.Worker), raise(2, api.Fighter))
	for _, c := range []struct {
		player  int
		given   api.Command
		ordered api.Unit
	}{
		{0, api.Command{Unit: 3, What: api.Move, X: 9, Y: 9, Target: 7}, api.Unit{What: api.Move, ToX: 9, ToY: 9}},
		{0, api.Command{Unit: 3, What: api.Mine, X: 10, Y: 0, Target: -7}, api.Unit{What: api.Mine, ToX: 10}},
		{0, api.Command{Unit: 3, What: api.None, X: 1, Y: math.MinInt, Target: 7}, api.Unit{}},
		{0, api.Command{Unit: 1, What: api.Build, X: api.Fighter, Y: math.MaxInt, Target: 7}, api.Unit{What: api.Build, ToX: api.Fighter}},
		{1, api.Command{Unit: 4, What: api.Hit, X: -1, Y: 99, Target: 3}, api.Unit{What: api.Hit, Target: 3}},
	} {
		both := [2]commands{}
		both[c.player] = commands{c.given}
		played(t, g, both[0], both[1])
		u := one(t, g, c.given.Unit)
		if got := (api.Unit{What: u.What, ToX: u.ToX, ToY: u.ToY, Target: u.Target}); got != c.ordered {
			t.Errorf("P3: behind %+v: %+v", c.given, got)
		}
	}
}

func TestLaterOrderStands(t *testing.T) {
	g := begun(t, "A..........B")
	played(t, g, raise(1, api.Worker), nil)
	l := g.Play(commands{
		{Unit: 3, What: api.Move, X: 5},
		{Unit: 3, What: api.Move, X: 1, Y: 5},
		{Unit: 3, What: api.Move, X: 12},
	}, commands{{Unit: 3, What: api.Move, X: 7}})
	if !reflect.DeepEqual(l, [][]int{{2}, {0}}) {
		t.Errorf("P3: refused: %v", l)
	}
	if u := one(t, g, 3); u.ToX != 1 || u.ToY != 5 || u.Y != 1 {
		t.Errorf("P3: the order that stands: %+v", u)
	}
}

// The document's first example.
func TestMiningUntilTheOreRunsOut(t *testing.T) {
	g := begun(t, "A...7......B")
	played(t, g, raise(1, api.Worker), nil)
	first := commands{{Unit: 3, What: api.Mine, X: 4}}
	for i, want := range []struct{ x, load, ore, stock, what int }{
		{2, 0, 7, 5, 2}, {3, 0, 7, 5, 2}, {3, 5, 2, 5, 2},
		{2, 5, 2, 5, 2}, {1, 5, 2, 5, 2}, {1, 0, 2, 10, 2},
		{2, 0, 2, 10, 2}, {3, 0, 2, 10, 2}, {3, 2, 0, 10, 2},
		{2, 2, 0, 10, 2}, {1, 2, 0, 10, 2}, {1, 0, 0, 12, 2},
		{1, 0, 0, 12, 0}, {1, 0, 0, 12, 0},
	} {
		played(t, g, first, nil)
		first = nil
		u, ore, stock := one(t, g, 3), g.Cells()[0][4], g.Look().Stocks[0]
		if u.Y != 0 || u.X != want.x || u.Load != want.load || ore != want.ore || stock != want.stock || u.What != want.what {
			t.Fatalf("P3: turn %d: %+v, ore %d, stock %d, want %+v", i, u, ore, stock, want)
		}
	}
	if u := one(t, g, 3); u.ToX != 0 || u.ToY != 0 {
		t.Errorf("P3: None with a cell: %+v", u)
	}
	if l := g.Play(commands{{Unit: 3, What: api.Mine, X: 4}}, nil); len(l[0]) != 1 {
		t.Errorf("P3: Mine for a cell without ore is taken: %v", l)
	}
	played(t, g, commands{{Unit: 3, What: api.Move, X: 4}}, nil)
	goes(t, g, 3, [2]int{3, 0}, [2]int{4, 0}) // it is ground now
}

// Two workers at one cell of ore: the later one takes what is left, or finds nothing.
func TestOreForTwo(t *testing.T) {
	for _, c := range []struct{ ore, second, what int }{{9, 4, api.Mine}, {6, 1, api.Mine}, {5, 0, api.None}, {3, 0, api.None}} {
		g := begun(t, "A.#........B", "."+string(rune('0'+c.ore)))
		played(t, g, raise(1, api.Worker), nil) // 3 at 1, 0
		played(t, g, raise(1, api.Worker), nil) // 4 at 0, 1
		order := api.Command{What: api.Mine, X: 1, Y: 1}
		both := commands{order, order}
		both[0].Unit, both[1].Unit = 3, 4
		played(t, g, both, nil)
		a, b := one(t, g, 3), one(t, g, 4)
		if a.Load != min(5, c.ore) || b.Load != c.second || b.What != c.what || g.Cells()[1][1] != 0 {
			t.Errorf("P3: of %d: %+v, %+v, left %d", c.ore, a, b, g.Cells()[1][1])
		}
	}
}

// A load stays with a worker that is sent elsewhere; with a load Mine goes home first, even if the new cell is beside it.
func TestLoadStays(t *testing.T) {
	g := begun(t, "A.9.9......B")
	played(t, g, raise(1, api.Worker), nil)
	played(t, g, commands{{Unit: 3, What: api.Mine, X: 2}}, nil)
	played(t, g, commands{{Unit: 3, What: api.Move, X: 3}}, nil)
	goes(t, g, 3, [2]int{2, 1}, [2]int{3, 1}, [2]int{3, 0})
	if u := one(t, g, 3); u.Load != 5 {
		t.Errorf("P3: behind Move: %+v", u)
	}
	played(t, g, commands{{Unit: 3, What: api.Mine, X: 4}}, nil)
	if u := one(t, g, 3); u.X != 3 || u.Y != 1 || u.Load != 5 || g.Cells()[0][4] != 9 {
		t.Errorf("P3: Mine with a load: %+v", u)
	}
}

func TestBuildTakesTheFirstFreeNeighbour(t *testing.T) {
	g := begun(t, "....#.......", "...1A.......", "...........B")
	played(t, g, raise(1, api.Worker), nil)
	if u := one(t, g, 3); u.X != 5 || u.Y != 1 {
		t.Errorf("P3: above is rock: %+v", u)
	}
	played(t, g, raise(1, api.Worker), nil)
	if u := one(t, g, 4); u.X != 4 || u.Y != 2 {
		t.Errorf("P3: to the right stands somebody: %+v", u)
	}
	played(t, g, commands{{Unit: 4, What: api.Mine, X: 3, Y: 1}, {Unit: 1, What: api.Build, X: api.Worker}}, nil)
	if u := one(t, g, 1); u.What != api.Build || len(g.People()) != 4 {
		t.Errorf("P3: without ore: %+v", g.People())
	}
}

func TestBuildWaitsForOreAndForRoom(t *testing.T) {
	g := begun(t, "A9#........B", ".9", "#")
	played(t, g, raise(1, api.Worker), nil) // 3 at 0, 1
	played(t, g, commands{{Unit: 3, What: api.Mine, X: 1, Y: 1}, {Unit: 1, What: api.Build, X: api.Fighter}}, nil)
	played(t, g, nil, nil)
	if s := g.Look(); s.Stocks[0] != 10 || len(g.People()) != 3 {
		t.Errorf("P3: no room: %+v, %+v", s, g.People())
	}
	for range 3 { // it takes the last 4, brings them, finds none
		played(t, g, nil, nil)
	}
	played(t, g, commands{{Unit: 3, What: api.Move, X: 1, Y: 1}}, nil)
	if s := g.Look(); s.Stocks[0] != 14 || len(g.People()) != 3 {
		t.Errorf("P3: the base acts ahead of who makes room: %+v, %+v", s, g.People())
	}
	played(t, g, nil, nil)
	if s, u := g.Look(), one(t, g, 4); s.Stocks[0] != 6 || u.Kind != api.Fighter || u.Y != 1 || one(t, g, 1).What != api.None {
		t.Errorf("P3: with room: %+v, %+v", s, g.People())
	}
}

func TestSeveralShortestWays(t *testing.T) {
	g := begun(t, "............", "A..........B")
	played(t, g, raise(1, api.Worker), nil) // 3 at 0, 0
	played(t, g, commands{{Unit: 3, What: api.Move, X: 2, Y: 2}}, nil)
	goes(t, g, 3, [2]int{2, 0}, [2]int{2, 1}, [2]int{2, 2}) // right ahead of below
	played(t, g, commands{{Unit: 3, What: api.Move, X: 4, Y: 0}}, nil)
	goes(t, g, 3, [2]int{2, 0}, [2]int{3, 0}, [2]int{4, 0}, [2]int{4, 0}) // above ahead of right
	played(t, g, commands{{Unit: 3, What: api.Move, X: 3, Y: 1}}, nil)
	goes(t, g, 3, [2]int{3, 1}) // below ahead of left
	if u := one(t, g, 3); u.What != api.Move {
		t.Errorf("P3: the order ends the turn after: %+v", u)
	}
}

func TestNoWay(t *testing.T) {
	g := begun(t, "A.#..5.....B", ".##.........", "#")
	played(t, g, raise(1, api.Worker), nil)
	for _, c := range []api.Command{
		{Unit: 3, What: api.Move, X: 5, Y: 5}, // walled in
		{Unit: 3, What: api.Mine, X: 5},       // likewise
		{Unit: 3, What: api.Move, X: 5},       // ore
		{Unit: 3, What: api.Move},             // where the base stands
	} {
		played(t, g, commands{c}, nil)
		if u := one(t, g, 3); u.X != 1 || u.Y != 0 || u.What != c.What || u.ToX != c.X || u.ToY != c.Y {
			t.Errorf("P3: without a way: %+v behind %+v", u, c)
		}
	}
}

// People are in each other's way, and a way that was shut opens again.
func TestSomebodyInTheWay(t *testing.T) {
	g := begun(t, "A....#.....B", "######......")
	played(t, g, raise(1, api.Worker), nil)
	played(t, g, commands{{Unit: 3, What: api.Move, X: 2}, {Unit: 1, What: api.Build, X: api.Worker}}, nil)
	// the base acted first, when 3 still stood beside it
	if len(g.People()) != 3 {
		t.Fatalf("P3: %+v", g.People())
	}
	played(t, g, nil, nil)
	played(t, g, commands{{Unit: 4, What: api.Move, X: 4}}, nil)
	goes(t, g, 4, [2]int{1, 0}) // 3 is in the way
	played(t, g, commands{{Unit: 3, What: api.Move, X: 4}}, nil)
	goes(t, g, 4, [2]int{1, 0}) // 3 is at its cell
	played(t, g, commands{{Unit: 4, What: api.Move, X: 3}}, nil)
	goes(t, g, 4, [2]int{3, 0})
	if u := one(t, g, 3); u.X != 4 || u.What != api.None {
		t.Errorf("P3: who went ahead: %+v", u)
	}
}

// The document's second example.
func TestTwoFighters(t *testing.T) {
	g := begun(t, "....A..B....")
	played(t, g, raise(1, api.Fighter), raise(2, api.Fighter)) // 3 at 5, 0; 4 at 8, 0
	played(t, g, commands{{Unit: 3, What: api.Move, X: 6}}, commands{{Unit: 4, What: api.Move, X: 6, Y: 1}})
	goes(t, g, 4, [2]int{7, 1}, [2]int{6, 1})
	first, second := commands{{Unit: 3, What: api.Hit, Target: 4}}, commands{{Unit: 4, What: api.Hit, Target: 3}}
	for _, want := range [][2]int{{9, 9}, {6, 6}, {3, 3}} {
		played(t, g, first, second)
		if a, b := one(t, g, 3), one(t, g, 4); a.Life != want[0] || b.Life != want[1] {
			t.Errorf("P3: lives %d and %d, want %v", a.Life, b.Life, want)
		}
		first, second = nil, nil
	}
	played(t, g, nil, nil)
	if u := one(t, g, 3); u.Life != 3 || len(g.People()) != 3 || u.What != api.Hit {
		t.Errorf("P3: at the end: %+v", g.People())
	}
	played(t, g, nil, nil)
	if u := one(t, g, 3); u.What != api.None || u.Target != 0 {
		t.Errorf("P3: the target is gone: %+v", u)
	}
	if l := g.Play(commands{{Unit: 3, What: api.Hit, Target: 4}}, commands{{Unit: 4}}); !reflect.DeepEqual(l, [][]int{{0}, {0}}) {
		t.Errorf("P3: commands for and against who is gone: %v", l)
	}
}

func TestEndOfAGame(t *testing.T) {
	g := begun(t, "....A...B...")
	played(t, g, nil, raise(2, api.Fighter)) // 3 at 9, 0
	played(t, g, nil, commands{{Unit: 3, What: api.Hit, Target: 1}})
	for g.Look().Winner == 0 && g.Look().Turn < 100 {
		played(t, g, raise(1, api.Worker), nil)
	}
	end, people, cells := g.Look(), g.People(), g.Cells()
	if end.Winner != 2 || slices.ContainsFunc(people, func(u api.Unit) bool { return u.Id == 1 }) {
		t.Fatalf("P3: at the end: %+v, %+v", end, people)
	}
	for more := 1; more < 4; more++ {
		l := g.Play(commands{{Unit: 4}, {Unit: 99}}, commands{{Unit: 2}, {Unit: 3, What: api.Move, X: 5, Y: 5}, {Unit: 2, What: api.Build, X: api.Worker}})
		if !reflect.DeepEqual(l, [][]int{{0, 1}, {0, 1, 2}}) {
			t.Errorf("P3: behind the end: %v", l)
		}
		want := end
		want.Turn += more
		if g.Look() != want || !slices.Equal(g.People(), people) || g.Cells() != cells {
			t.Errorf("P3: behind the end: %+v, %+v", g.Look(), g.People())
		}
	}
}
