package rules

import (
	"reflect"
	"strings"
	"testing"

	"skirmish/api"
)

// drawn: a game from some lines of a map, with ground below them.
func drawn(t *testing.T, lines ...string) Game {
	t.Helper()
	var b strings.Builder
	for y := range api.Side {
		l := ""
		if y < len(lines) {
			l = lines[y]
		}
		b.WriteString(l + strings.Repeat(".", api.Side-len(l)) + "\n")
	}
	g, right := New(b.String())
	if !right {
		t.Fatalf("no map: %q", lines)
	}
	return g
}

// with: one more of the people; its Id and life are as New ones have them.
func with(g Game, u api.Unit) Game {
	u.Id, u.Life = g.Next, kindOf(u.Kind).life
	g.People = append(g.People[:len(g.People):len(g.People)], u)
	g.Next++
	return g
}

// crowd: workers of player 0 on the lowest rows, until there are so many people.
func crowd(g Game, many int) Game {
	for i := 0; len(g.People) < many; i++ {
		g = with(g, api.Unit{Kind: api.Worker, X: i % api.Side, Y: api.Side - 1 - i/api.Side})
	}
	return g
}

func played(t *testing.T, g Game, first, second []api.Command) Game {
	t.Helper()
	next, refused := Play(g, first, second)
	if len(refused) != 2 || len(refused[0])+len(refused[1]) > 0 {
		t.Errorf("refused: %v", refused)
	}
	return next
}

func one(t *testing.T, g Game, id int) api.Unit {
	t.Helper()
	place, here := g.find(id)
	if !here {
		t.Fatalf("%d is not there", id)
	}
	return g.People[place]
}

var (
	firstBuilds  = []api.Command{{Unit: 1, What: api.Build, X: api.Worker}}
	secondBuilds = []api.Command{{Unit: 2, What: api.Build, X: api.Worker}}
)

func TestHundredPeople(t *testing.T) {
	g := crowd(drawn(t, "A..........B"), api.MaxPeople-1)
	g = played(t, g, firstBuilds, secondBuilds)
	if len(g.People) != api.MaxPeople || g.Stocks != [2]int{5, 10} {
		t.Fatalf("P3: %d people, stocks %v", len(g.People), g.Stocks)
	}
	if a, b := one(t, g, 1), one(t, g, 2); a.What != api.None || b.What != api.Build || b.ToX != api.Worker {
		t.Errorf("P3: the bases: %+v, %+v", a, b)
	}
	g = played(t, g, nil, nil)
	if len(g.People) != api.MaxPeople {
		t.Errorf("P3: %d people", len(g.People))
	}
	g.People = g.People[:api.MaxPeople-1]
	g = played(t, g, nil, nil)
	if u := g.People[len(g.People)-1]; len(g.People) != api.MaxPeople || u.Owner != 1 || u.Id != g.Next-1 {
		t.Errorf("P3: a Build that waited: %d people, the last %+v", len(g.People), u)
	}
}

// Who is gone ahead of the base in the same turn leaves room for another.
func TestRoomInTheMidstOfATurn(t *testing.T) {
	g := drawn(t, "A..........B")
	bases := g.People
	g.People = nil
	g.Next = 1
	g = with(g, api.Unit{Kind: api.Fighter, X: 5, Y: 0})
	g = with(g, api.Unit{Owner: 1, Kind: api.Worker, X: 6, Y: 0})
	g.People[1].Life = api.Harm
	g = crowd(g, api.MaxPeople-2)
	g = with(g, bases[0])
	g = with(g, bases[1])
	g = played(t, g, []api.Command{{Unit: 1, What: api.Hit, Target: 2}, {Unit: 99, What: api.Build, X: api.Worker}}, nil)
	if _, here := g.find(2); here || len(g.People) != api.MaxPeople || g.People[api.MaxPeople-1].Id != 101 {
		t.Errorf("P3: %d people, the last %+v", len(g.People), g.People[len(g.People)-1])
	}
}

func TestLastId(t *testing.T) {
	g := drawn(t, "A..........B")
	g.Next = api.MaxNumber - 1
	g = played(t, g, firstBuilds, secondBuilds)
	if one(t, g, api.MaxNumber-1).Owner != 0 || len(g.People) != 3 || g.Next != api.MaxNumber {
		t.Errorf("P3: %+v, next %d", g.People, g.Next)
	}
	if u := one(t, g, 2); u.What != api.Build || g.Stocks[1] != 10 {
		t.Errorf("P3: %+v, stocks %v", u, g.Stocks)
	}
}

func TestLastTurn(t *testing.T) {
	g := drawn(t, "A..........B")
	g.Turn = api.MaxNumber - 1
	g = played(t, g, firstBuilds, nil)
	if g.Turn != api.MaxNumber || len(g.People) != 3 {
		t.Fatalf("P3: turn %d, %d people", g.Turn, len(g.People))
	}
	next, refused := Play(g, []api.Command{{Unit: 1}, {Unit: 3, What: api.Move, X: 5}}, []api.Command{{Unit: 2}})
	if !reflect.DeepEqual(refused, [][]int{{0, 1}, {0}}) {
		t.Errorf("P3: refused at the last turn: %v", refused)
	}
	if !reflect.DeepEqual(next, g) {
		t.Errorf("P3: done at the last turn: %+v", next)
	}
}

func TestLastTurnOfAGameThatIsOver(t *testing.T) {
	g := drawn(t, "A..........B")
	g.People = g.People[1:]
	g.Turn = api.MaxNumber - 1
	for range 3 {
		g, _ = Play(g, nil, nil)
		if g.Turn != api.MaxNumber || g.Winner() != 2 {
			t.Errorf("P3: turn %d, winner %d", g.Turn, g.Winner())
		}
	}
}

func TestFullStock(t *testing.T) {
	for _, c := range []struct{ stock, load, want int }{
		{api.MaxNumber - 5, 5, api.MaxNumber},
		{api.MaxNumber - 4, 5, api.MaxNumber},
		{api.MaxNumber, 1, api.MaxNumber},
		{api.MaxNumber - 5, 4, api.MaxNumber - 1},
	} {
		g := with(drawn(t, "A..9.......B"), api.Unit{Kind: api.Worker, X: 1, Load: c.load})
		g.Stocks[0] = c.stock
		g = played(t, g, []api.Command{{Unit: 3, What: api.Mine, X: 3}}, nil)
		if u := one(t, g, 3); g.Stocks != [2]int{c.want, 10} || u.Load != 0 || u.What != api.Mine {
			t.Errorf("P3: %d and %d: stocks %v, %+v", c.stock, c.load, g.Stocks, u)
		}
	}
}

// A base that is gone in the midst of a turn: those ahead of that have acted, those behind it have not.
func TestBaseGoneInTheMidst(t *testing.T) {
	g := drawn(t, "A.........B.")
	g = with(g, api.Unit{Kind: api.Worker, X: 5, Y: 5})
	g = with(g, api.Unit{Kind: api.Fighter, X: 9, Y: 0})
	g = with(g, api.Unit{Kind: api.Worker, X: 5, Y: 7})
	g = with(g, api.Unit{Owner: 1, Kind: api.Fighter, X: 9, Y: 1})
	g.People[1].Life = 1
	g = played(t, g, []api.Command{
		{Unit: 3, What: api.Move, X: 8, Y: 5},
		{Unit: 4, What: api.Hit, Target: 2},
		{Unit: 5, What: api.Move, X: 8, Y: 7},
	}, []api.Command{{Unit: 6, What: api.Hit, Target: 4}})
	if _, here := g.find(2); here || g.Winner() != 1 || g.Turn != 1 {
		t.Errorf("P3: winner %d, turn %d, %+v", g.Winner(), g.Turn, g.People)
	}
	if u := one(t, g, 3); u.X != 6 {
		t.Errorf("P3: ahead of it: %+v", u)
	}
	if u := one(t, g, 5); u.X != 5 || u.What != api.Move {
		t.Errorf("P3: behind it: %+v", u)
	}
	if u := one(t, g, 4); u.Life != 12 || u.What != api.Hit || u.Target != 2 {
		t.Errorf("P3: who was to be hit behind it: %+v", u)
	}
	next, refused := Play(g, []api.Command{{Unit: 3}}, []api.Command{{Unit: 6}})
	if !reflect.DeepEqual(refused, [][]int{{0}, {0}}) || next.Turn != 2 || !reflect.DeepEqual(next.People, g.People) {
		t.Errorf("P3: when it is over: %v, turn %d, %+v", refused, next.Turn, next.People)
	}
}

func TestLives(t *testing.T) {
	for _, c := range []struct{ kind, life, hits int }{{api.Base, 40, 14}, {api.Worker, 8, 3}, {api.Fighter, 12, 4}} {
		g := drawn(t, "A..........B")
		target := 2
		g = with(g, api.Unit{Kind: api.Fighter, X: 10})
		if c.kind != api.Base {
			g = with(g, api.Unit{Owner: 1, Kind: c.kind, X: 9})
			target = 4
		}
		g = played(t, g, []api.Command{{Unit: 3, What: api.Hit, Target: target}}, nil)
		for hits := 1; hits < c.hits; hits++ {
			if u := one(t, g, target); u.Life != c.life-hits*api.Harm {
				t.Errorf("P3: kind %d behind %d: life %d", c.kind, hits, u.Life)
			}
			g = played(t, g, nil, nil)
		}
		if _, here := g.find(target); here {
			t.Errorf("P3: kind %d is there behind %d", c.kind, c.hits)
		}
	}
}

// Who is gone by then does not act, and its cell is free for those behind it.
func TestGoneAheadOfActing(t *testing.T) {
	g := drawn(t, "A..........B", "", "#########...", "............", "#########...")
	g = with(g, api.Unit{Kind: api.Fighter, X: 0, Y: 3})
	g = with(g, api.Unit{Owner: 1, Kind: api.Fighter, X: 1, Y: 3})
	g = with(g, api.Unit{Owner: 1, Kind: api.Worker, X: 2, Y: 3})
	g.People[3].Life = api.Harm
	g = played(t, g, []api.Command{{Unit: 3, What: api.Hit, Target: 4}}, []api.Command{
		{Unit: 4, What: api.Hit, Target: 3},
		{Unit: 5, What: api.Move, X: 1, Y: 3},
	})
	if u := one(t, g, 3); u.Life != 12 || u.What != api.Hit {
		t.Errorf("P3: who hit first: %+v", u)
	}
	if u := one(t, g, 5); u.X != 1 || u.Y != 3 {
		t.Errorf("P3: who went to the free cell: %+v", u)
	}
	g = played(t, g, nil, nil)
	if u := one(t, g, 3); u.What != api.None || u.Target != 0 {
		t.Errorf("P3: whose target is gone: %+v", u)
	}
}

// Those that come in a turn do not act in it, and those that were built are idle.
func TestNewOnesWait(t *testing.T) {
	g := drawn(t, "A..........B")
	g = played(t, g, []api.Command{{Unit: 1, What: api.Build, X: api.Fighter}}, secondBuilds)
	want := []api.Unit{
		{Id: 3, Kind: api.Fighter, X: 1, Life: 12},
		{Id: 4, Owner: 1, Kind: api.Worker, X: 11, Y: 1, Life: 8},
	}
	if !reflect.DeepEqual(g.People[2:], want) || g.Stocks != [2]int{2, 5} {
		t.Errorf("P3: %+v, stocks %v", g.People[2:], g.Stocks)
	}
}

// A turn leaves the game it began with as it was: its list of people is not written into.
func TestPlayLeavesTheOldGame(t *testing.T) {
	old := with(drawn(t, "A..9.......B"), api.Unit{Kind: api.Fighter, X: 10})
	people := append([]api.Unit{}, old.People...)
	for range 2 {
		played(t, old, append(firstBuilds, api.Command{Unit: 3, What: api.Hit, Target: 2}), secondBuilds)
		if !reflect.DeepEqual(old.People, people) || old.Turn != 0 || old.Next != 4 {
			t.Errorf("P2: the game ahead of a turn is changed: %+v", old)
		}
	}
}

// MayBe of games that differ from a right one in one thing. (What a text can tell is tested by Read.)
func TestMayBe(t *testing.T) {
	fresh := func() Game {
		g := with(drawn(t, "A.9#.......B"), api.Unit{Kind: api.Worker, X: 5})
		return with(g, api.Unit{Owner: 1, Kind: api.Fighter, X: 6})
	}
	for _, c := range []struct {
		name   string
		may    bool
		change func(g *Game)
	}{
		{"as it is", true, func(g *Game) {}},
		{"a cell", false, func(g *Game) { g.Board[9][9] = 11 }},
		{"next Id", false, func(g *Game) { g.Next = 4 }},
		{"no Id", false, func(g *Game) { g.People[0].Id = 0 }},
		{"an Id twice", false, func(g *Game) { g.People[1].Id = 1 }},
		{"two on a cell", false, func(g *Game) { g.People[3].X = 5 }},
		{"on ore", false, func(g *Game) { g.People[3].X = 2 }},
		{"on rock", false, func(g *Game) { g.People[3].X = 3 }},
		{"off the board", false, func(g *Game) { g.People[3].Y = 12 }},
		{"owner", false, func(g *Game) { g.People[3].Owner = 2 }},
		{"kind", false, func(g *Game) { g.People[3].Kind = 4 }},
		{"no life", false, func(g *Game) { g.People[3].Life = 0 }},
		{"too much life", false, func(g *Game) { g.People[3].Life = 13 }},
		{"a fighter's load", false, func(g *Game) { g.People[3].Load = 1 }},
		{"a base's load", false, func(g *Game) { g.People[0].Load = 1 }},
		{"a worker's load", true, func(g *Game) { g.People[2].Load = 5 }},
		{"too much load", false, func(g *Game) { g.People[2].Load = 6 }},
		{"an order that uses it", true, func(g *Game) { g.People[2].What, g.People[2].ToX = api.Mine, 2 }},
		{"an order that does not", false, func(g *Game) { g.People[2].What, g.People[2].Target = api.Mine, 2 }},
		{"ore that is gone", true, func(g *Game) { g.People[2].What, g.People[2].ToX = api.Mine, 1 }},
		{"ore that never was", false, func(g *Game) { g.People[2].What, g.People[2].ToX = api.Mine, 3 }},
		{"a target that is gone", true, func(g *Game) { g.People[3].What, g.People[3].Target, g.Next = api.Hit, 5, 6 }},
		{"a target to come", false, func(g *Game) { g.People[3].What, g.People[3].Target = api.Hit, 5 }},
		{"no target", false, func(g *Game) { g.People[3].What = api.Hit }},
		{"one's own Id", false, func(g *Game) { g.People[3].What, g.People[3].Target = api.Hit, 4 }},
		{"one base", true, func(g *Game) { g.People = g.People[1:] }},
		{"no base", false, func(g *Game) { g.People = g.People[2:] }},
		{"two bases of one player", false, func(g *Game) { g.People[1].Owner = 0 }},
	} {
		g := fresh()
		c.change(&g)
		if g.MayBe() != c.may {
			t.Errorf("P4: %s: %v", c.name, g.MayBe())
		}
	}
}
