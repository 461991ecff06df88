package skirmish_test

import (
	"math/rand/v2"
	"reflect"
	"slices"
	"strings"
	"testing"

	"skirmish/api"
	"skirmish/skirmish"
)

// model: the rules once more, as plainly and slowly as can be: no maps, and ways by distances that are worked out backwards from their ends.
type model struct {
	state api.State
	next  int
	board api.Board
	all   []*api.Unit // with those that are gone: they have no life
}

func modelOf(text string) *model {
	m := &model{state: api.State{Stocks: [2]int{10, 10}}, next: 3, all: make([]*api.Unit, 2)}
	for y, line := range strings.Fields(text) {
		for x, sign := range line {
			switch {
			case sign == 'A' || sign == 'B':
				owner := int(sign - 'A')
				m.all[owner] = &api.Unit{Id: owner + 1, Owner: owner, Kind: 1, X: x, Y: y, Life: 40}
			case sign == '#':
				m.board[y][x] = 10
			case sign != '.':
				m.board[y][x] = int(sign - '0')
			}
		}
	}
	return m
}

func (m *model) living() []api.Unit {
	var out []api.Unit
	for _, u := range m.all {
		if u.Life > 0 {
			out = append(out, *u)
		}
	}
	return out
}

func (m *model) get(id int) *api.Unit {
	for _, u := range m.all {
		if u.Id == id && u.Life > 0 {
			return u
		}
	}
	return nil
}

// home: a player's base, which must be there.
func (m *model) home(owner int) *api.Unit {
	place := slices.IndexFunc(m.all, func(u *api.Unit) bool { return u.Owner == owner && u.Kind == 1 && u.Life > 0 })
	return m.all[place]
}

func (m *model) ground(x, y int) int {
	if x < 0 || y < 0 || x > 11 || y > 11 {
		return -1
	}
	return m.board[y][x]
}

func (m *model) free(x, y int) bool {
	for _, u := range m.all {
		if u.Life > 0 && u.X == x && u.Y == y {
			return false
		}
	}
	return m.ground(x, y) == 0
}

func around(x, y int) [4][2]int {
	return [4][2]int{{x, y - 1}, {x + 1, y}, {x, y + 1}, {x - 1, y}}
}

func beside(x, y, a, b int) bool {
	return (x-a)*(x-a)+(y-b)*(y-b) == 1
}

// step: touch is 0 to go to the cell itself, 1 to go beside it.
func (m *model) step(u *api.Unit, x, y, touch int) {
	const far = 1000
	var dist [12][12]int
	var free [12][12]bool
	for b := range 12 {
		for a := range 12 {
			free[b][a] = m.free(a, b)
			dist[b][a] = far
			end := a == x && b == y
			if touch == 1 {
				end = beside(a, b, x, y)
			}
			if end && free[b][a] {
				dist[b][a] = 0
			}
		}
	}
	for changed := true; changed; {
		changed = false
		for b := range 12 {
			for a := range 12 {
				for _, n := range around(a, b) {
					if m.ground(n[0], n[1]) >= 0 && free[b][a] && dist[n[1]][n[0]]+1 < dist[b][a] {
						dist[b][a] = dist[n[1]][n[0]] + 1
						changed = true
					}
				}
			}
		}
	}
	best, to := far, [2]int{u.X, u.Y}
	for _, n := range around(u.X, u.Y) {
		if m.ground(n[0], n[1]) >= 0 && dist[n[1]][n[0]] < best {
			best, to = dist[n[1]][n[0]], n
		}
	}
	u.X, u.Y = to[0], to[1]
}

func (m *model) take(player int, c api.Command) bool {
	u := m.get(c.Unit)
	if m.state.Winner != 0 || m.state.Turn == 1e9 || u == nil || u.Owner != player {
		return false
	}
	order := api.Command{What: c.What, X: c.X, Y: c.Y}
	good := false
	switch c.What {
	case 0:
		order, good = api.Command{}, true
	case 1:
		at := m.ground(c.X, c.Y)
		good = u.Kind != 1 && at >= 0 && at != 10
	case 2:
		at := m.ground(c.X, c.Y)
		good = u.Kind == 2 && at > 0 && at != 10
	case 3:
		order = api.Command{What: 3, Target: c.Target}
		w := m.get(c.Target)
		good = u.Kind == 3 && w != nil && w.Owner != player
	case 4:
		order.Y = 0
		good = u.Kind == 1 && (c.X == 2 || c.X == 3)
	}
	if good {
		u.What, u.ToX, u.ToY, u.Target = order.What, order.X, order.Y, order.Target
	}
	return good
}

func (m *model) act(u *api.Unit) {
	done := false
	switch u.What {
	case 1:
		if done = u.X == u.ToX && u.Y == u.ToY; !done {
			m.step(u, u.ToX, u.ToY, 0)
		}
	case 2:
		home, ore := m.home(u.Owner), &m.board[u.ToY][u.ToX]
		switch {
		case u.Load > 0 && beside(u.X, u.Y, home.X, home.Y):
			m.state.Stocks[u.Owner] = min(m.state.Stocks[u.Owner]+u.Load, 1e9)
			u.Load = 0
		case u.Load > 0:
			m.step(u, home.X, home.Y, 1)
		case *ore == 0:
			done = true
		case beside(u.X, u.Y, u.ToX, u.ToY):
			for *ore > 0 && u.Load < 5 {
				*ore--
				u.Load++
			}
		default:
			m.step(u, u.ToX, u.ToY, 1)
		}
	case 3:
		w := m.get(u.Target)
		switch {
		case w == nil:
			done = true
		case beside(u.X, u.Y, w.X, w.Y):
			if w.Life -= 3; w.Life <= 0 && w.Kind == 1 {
				m.state.Winner = 2 - w.Owner
			}
		default:
			m.step(u, w.X, w.Y, 1)
		}
	case 4:
		done = m.build(u)
	}
	if done {
		u.What, u.ToX, u.ToY, u.Target = 0, 0, 0, 0
	}
}

func (m *model) build(u *api.Unit) bool {
	cost, life := 5, 8
	if u.ToX == 3 {
		cost, life = 8, 12
	}
	for _, n := range around(u.X, u.Y) {
		if m.free(n[0], n[1]) && m.state.Stocks[u.Owner] >= cost && len(m.living()) < 100 && m.next < 1e9 {
			m.all = append(m.all, &api.Unit{Id: m.next, Owner: u.Owner, Kind: u.ToX, X: n[0], Y: n[1], Life: life})
			m.next++
			m.state.Stocks[u.Owner] -= cost
			return true
		}
	}
	return false
}

func (m *model) play(lists [2]commands) [2][]int {
	var refused [2][]int
	for player, list := range lists {
		for place, c := range list {
			if !m.take(player, c) {
				refused[player] = append(refused[player], place)
			}
		}
	}
	if m.state.Turn == 1e9 {
		return refused
	}
	for _, u := range m.living() {
		if now := m.get(u.Id); now != nil && m.state.Winner == 0 {
			m.act(now)
		}
	}
	m.state.Turn++
	return refused
}

// randomMap: the more rock, the more narrow ways.
func randomMap(r *rand.Rand) string {
	b := []byte(mapOf())
	rock, ore := r.IntN(45), 5+r.IntN(30)
	for i := range b {
		if b[i] == '\n' {
			continue
		}
		if n := r.IntN(100); n < rock {
			b[i] = '#'
		} else if n < rock+ore {
			b[i] = byte('1' + r.IntN(9))
		}
	}
	for {
		p, q := r.IntN(len(b)), r.IntN(len(b))
		if p != q && b[p] != '\n' && b[q] != '\n' {
			b[p], b[q] = 'A', 'B'
			return string(b)
		}
	}
}

// randomCommands: mostly for people that are there, with numbers that may fit; cells of ore are chosen more often than others.
func randomCommands(r *rand.Rand, g *skirmish.Game, many int) commands {
	people, cells := g.People(), g.Cells()
	var list commands
	for range r.IntN(many + 1) {
		u := people[r.IntN(len(people))]
		c := api.Command{Unit: u.Id, What: r.IntN(5), X: r.IntN(14) - 1, Y: r.IntN(14) - 1, Target: r.IntN(len(people)+4) - 1}
		switch r.IntN(8) {
		case 0:
			c.Unit = r.IntN(20) - 2
		case 1:
			c.What = r.IntN(8) - 2
		case 2, 3, 4, 5:
			c.What = []int{0, api.Build, api.Mine, api.Hit}[u.Kind]
		}
		if c.What == api.Build {
			c.X = r.IntN(3) + 1
		}
		for try := 0; c.What == api.Mine && try < 20 && (c.X < 0 || c.X > 11 || c.Y < 0 || c.Y > 11 || cells[c.Y][c.X]%10 == 0); try++ {
			c.X, c.Y = r.IntN(12), r.IntN(12)
		}
		if c.What == api.Hit && r.IntN(3) > 0 {
			c.Target = people[r.IntN(len(people))].Id
		}
		list = append(list, c)
	}
	return list
}

// alongside: a game and its model, which are to go alike.
type alongside struct {
	t    *testing.T
	game *skirmish.Game
	m    *model
}

func beginAlongside(t *testing.T, text string) alongside {
	t.Helper()
	g, e := skirmish.New(text)
	if e != api.OK {
		t.Fatalf("P3: New(%q) = %d", text, e)
	}
	return alongside{t, g, modelOf(text)}
}

func (a alongside) play(first, second commands) {
	a.t.Helper()
	refused, want := a.game.Play(first, second), a.m.play([2]commands{first, second})
	if len(refused) != 2 || !slices.Equal(refused[0], want[0]) || !slices.Equal(refused[1], want[1]) {
		a.t.Fatalf("P3: turn %d: %v, %v: refused %v, want %v", a.m.state.Turn, first, second, refused, want)
	}
	if got := told(a.game); !reflect.DeepEqual(got, all{a.m.state, a.m.living(), a.m.board}) {
		a.t.Fatalf("P3: turn %d: %v, %v: %+v, want %+v, %+v, %v", a.m.state.Turn, first, second, got, a.m.state, a.m.living(), a.m.board)
	}
	if got, want := a.game.Tell(), a.m.figures().text(); got != want {
		a.t.Fatalf("P4: turn %d: %v, %v: told %q, want %q", a.m.state.Turn, first, second, got, want)
	}
}

// P3: random games go as the model's do.
func TestAgainstTheModel(t *testing.T) {
	r := rand.New(rand.NewPCG(3, 5))
	ended := 0
	for range 120 {
		a := beginAlongside(t, randomMap(r))
		for turn := range 400 {
			a.play(randomCommands(r, a.game, 3), randomCommands(r, a.game, 3))
			if a.m.state.Winner != 0 && turn%20 == 0 {
				break
			}
		}
		if a.m.state.Winner != 0 {
			ended++
		}
	}
	if ended < 5 {
		t.Errorf("the games are too quiet to tell much: %d ended", ended)
	}
}

// nearestOre: to one of the people, as the crow flies; false, if there is none.
func nearestOre(u api.Unit, cells api.Board) (cell [2]int, found bool) {
	best := 1000
	for y, row := range cells {
		for x, n := range row {
			if far := max(x-u.X, u.X-x) + max(y-u.Y, u.Y-y); n > 0 && n < api.Rock && far < best {
				best, cell, found = far, [2]int{x, y}, true
			}
		}
	}
	return cell, found
}

// settlers: the base builds workers; they mine, and now and then one strolls, so that they do not shut each other in.
func settlers(r *rand.Rand, g *skirmish.Game, player int) commands {
	var list commands
	for _, u := range g.People() {
		ore, found := nearestOre(u, g.Cells())
		switch {
		case u.Owner != player:
		case u.Kind == api.Base:
			list = append(list, api.Command{Unit: u.Id, What: api.Build, X: api.Worker})
		case r.IntN(20) == 0:
			list = append(list, api.Command{Unit: u.Id, What: api.Move, X: r.IntN(12), Y: r.IntN(12)})
		case found && r.IntN(10) == 0:
			list = append(list, api.Command{Unit: u.Id, What: api.Mine, X: ore[0], Y: ore[1]})
		}
	}
	return list
}

// P3: a board on which people are in each other's way.
func TestCrowdAgainstTheModel(t *testing.T) {
	r := rand.New(rand.NewPCG(7, 11))
	rich := strings.Repeat("9", 12)
	a := beginAlongside(t, mapOf("", "", "..A", rich, rich, rich, rich, rich, rich, ".........B"))
	for range 1000 {
		a.play(settlers(r, a.game, 0), settlers(r, a.game, 1))
	}
	if l := a.game.People(); len(l) < 50 {
		t.Errorf("the board is too empty to tell much: %d people", len(l))
	}
}
