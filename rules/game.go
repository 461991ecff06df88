// Package rules: how a game stands, what its people can do, and what a turn does.
package rules

import (
	"cmp"
	"slices"

	"skirmish/api"
	"skirmish/land"
)

const firstStock = 10

// Game is how a game stands. It is a value: who copies it has another game.
type Game struct {
	Turn   int
	Next   int // the Id of who comes next
	Stocks [2]int
	Board  api.Board
	People []api.Unit // by their Ids; copies share the list, so nothing is written into it: a turn makes its own
}

// New begins a game; false, if the text is no map.
func New(text string) (Game, bool) {
	m, right := land.ReadMap(text)
	if !right {
		return Game{}, false
	}
	g := Game{Next: 1, Stocks: [2]int{firstStock, firstStock}, Board: m.Board}
	for owner, c := range m.Bases {
		g.add(owner, api.Base, c)
	}
	return g, true
}

// Winner tells 1 or 2 for the player whose base alone is left, else 0.
func (g *Game) Winner() int {
	_, first := g.base(0)
	_, second := g.base(1)
	if first == second {
		return 0
	}
	if first {
		return 1
	}
	return 2
}

// over tells whether a base is gone.
func (g *Game) over() bool {
	_, first := g.base(0)
	_, second := g.base(1)
	return !first || !second
}

// base finds a player's base.
func (g *Game) base(owner int) (api.Unit, bool) {
	for _, u := range g.People {
		if u.Kind == api.Base && u.Owner == owner {
			return u, true
		}
	}
	return api.Unit{}, false
}

// find tells the place in the list of who has this Id.
func (g *Game) find(id int) (int, bool) {
	return slices.BinarySearchFunc(g.People, id, func(u api.Unit, id int) int {
		return cmp.Compare(u.Id, id)
	})
}

// add lets somebody new stand on a cell. The list must be the game's own.
func (g *Game) add(owner, kind int, c land.Cell) {
	u := api.Unit{Id: g.Next, Owner: owner, Kind: kind, X: c.X, Y: c.Y, Life: kindOf(kind).life}
	g.People = append(g.People, u)
	g.Next++
}

// cellOf: where one stands.
func cellOf(u api.Unit) land.Cell {
	return land.Cell{X: u.X, Y: u.Y}
}

// cellsOf: the Ids of people by the cells where they stand.
func cellsOf(people []api.Unit) map[land.Cell]int {
	held := map[land.Cell]int{}
	for _, u := range people {
		held[cellOf(u)] = u.Id
	}
	return held
}
