// Package skirmish: a game of two sides, and a record of it that no cut spoils: see DOC.md.
package skirmish

import (
	"slices"

	"skirmish/api"
	"skirmish/content"
	"skirmish/rules"
)

// Game is one.
type Game struct {
	now rules.Game
}

// New begins a game (P3).
func New(text string) (*Game, api.Errno) {
	now, right := rules.New(text)
	if !right {
		return nil, api.ErrMap
	}
	return &Game{now: now}, api.OK
}

// there: a nil game is asked like one that has nobody, since no call may panic.
func (g *Game) there() *Game {
	if g == nil {
		return &Game{}
	}
	return g
}

// Play plays a turn (P3).
func (g *Game) Play(first []api.Command, second []api.Command) [][]int {
	g = g.there()
	next, refused := rules.Play(g.now, first, second)
	g.now = next
	return refused
}

// Look tells how the game stands (P3).
func (g *Game) Look() api.State {
	now := &g.there().now
	return api.State{Turn: now.Turn, Winner: now.Winner(), Stocks: now.Stocks}
}

// People tells all people (P3).
func (g *Game) People() []api.Unit {
	return slices.Clone(g.there().now.People)
}

// Cells tells the board (P3).
func (g *Game) Cells() api.Board {
	return g.there().now.Board
}

// Tell writes a state (P4).
func (g *Game) Tell() string {
	return content.TellState(g.there().now)
}

// Read reads one (P4).
func Read(text string) (*Game, api.Errno) {
	now, right := content.ReadState(text)
	if !right {
		return nil, api.ErrForm
	}
	return &Game{now: now}, api.OK
}
