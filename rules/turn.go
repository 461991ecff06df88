package rules

import (
	"slices"

	"skirmish/api"
	"skirmish/land"
)

// turn that is being played.
type turn struct {
	game Game
	held map[land.Cell]int // the Ids of people by the cells where they stand
	ways land.Ways
}

// Play plays a turn: the game behind it, and of each player the places of the commands that were refused.
func Play(g Game, first, second []api.Command) (Game, [][]int) {
	if g.Turn >= api.MaxNumber {
		return g, [][]int{places(first), places(second)}
	}
	if g.over() {
		g.Turn++
		return g, [][]int{places(first), places(second)}
	}
	t := begin(g)
	refused := make([][]int, 2)
	refused[0] = t.command(0, first)
	refused[1] = t.command(1, second)
	t.act()
	t.game.Turn++
	return t.game, refused
}

// places of all commands of a list.
func places(list []api.Command) []int {
	var all []int
	for place := range list {
		all = append(all, place)
	}
	return all
}

// begin a turn with a list of people that no other game has.
func begin(g Game) *turn {
	t := &turn{game: g, held: cellsOf(g.People), ways: land.NewWays()}
	t.game.People = slices.Clone(g.People)
	return t
}

// command gives a player's people their orders: the places of what was refused.
func (t *turn) command(player int, list []api.Command) []int {
	var refused []int
	for place, c := range list {
		if !t.take(player, c) {
			refused = append(refused, place)
		}
	}
	return refused
}

// take makes a command an order, if it can be one.
func (t *turn) take(player int, c api.Command) bool {
	place, here := t.game.find(c.Unit)
	if !here || t.game.People[place].Owner != player {
		return false
	}
	u := t.game.People[place]
	s, can := kindOf(u.Kind).skill(c.What)
	if !can || !s.takes(&t.game, u, c) {
		return false
	}
	t.game.People[place] = ordered(u, s.keeps(c))
	return true
}

// act lets all who are there now do what they were told. Those that come meanwhile are not among them, those that go are passed over.
func (t *turn) act() {
	for _, u := range slices.Clone(t.game.People) {
		place, here := t.game.find(u.Id)
		if here {
			t.actOne(t.game.People[place])
		}
		if t.game.over() {
			return
		}
	}
}

// actOne: the list may be another one behind the act, so the place in it is sought again.
func (t *turn) actOne(u api.Unit) {
	s, can := kindOf(u.Kind).skill(u.What)
	if !can {
		return
	}
	u = s.acts(t, u)
	if place, here := t.game.find(u.Id); here {
		t.game.People[place] = u
	}
}

// free tells whether one could stand on a cell of the board.
func (t *turn) free(c land.Cell) bool {
	_, taken := t.held[c]
	return !taken && t.game.Board[c.Y][c.X] == 0
}

// step goes one cell on a shortest way, or stays.
func (t *turn) step(u api.Unit, ends func(land.Cell) bool) api.Unit {
	to := t.ways.Step(cellOf(u), t.free, ends)
	delete(t.held, cellOf(u))
	t.held[to] = u.Id
	u.X, u.Y = to.X, to.Y
	return u
}

// harm the one at this place of the list; who has no life left is gone.
func (t *turn) harm(place int) {
	u := &t.game.People[place]
	u.Life -= api.Harm
	if u.Life <= 0 {
		delete(t.held, cellOf(*u))
		t.game.People = slices.Delete(t.game.People, place, place+1)
	}
}
