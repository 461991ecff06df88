package rules

import (
	"skirmish/api"
	"skirmish/land"
)

// kind of people: what it is made of and what it can do.
type kind struct {
	life, cost, load int                  // load: of ore, at most
	raised           bool                 // a base can build it
	skills           [api.Build + 1]skill // by orders; what it can't do has no functions
}

// skill: how a kind deals with one sort of order.
type skill struct {
	takes  func(g *Game, u api.Unit, c api.Command) bool // whether the command can be an order
	stands func(g *Game, u api.Unit, c api.Command) bool // whether the order can be one's that was given earlier: what it is about may be gone
	keeps  func(c api.Command) api.Command               // the command with noughts for what the order does not use
	acts   func(t *turn, u api.Unit) api.Unit            // what is done in a turn: how the one who did it is then
}

// kindOf tells a kind by its number; one that is not there has no life and can do nothing.
func kindOf(number int) kind {
	var k kind
	switch number {
	case api.Base:
		k.life = 40
		k.skills[api.Build] = skill{takes: takesBuild, stands: takesBuild, keeps: keepsKind, acts: build}
	case api.Worker:
		k.life, k.cost, k.load, k.raised = 8, 5, api.MaxLoad, true
		k.skills[api.Move] = skill{takes: takesMove, stands: takesMove, keeps: keepsCell, acts: move}
		k.skills[api.Mine] = skill{takes: takesMine, stands: standsMine, keeps: keepsCell, acts: mine}
	case api.Fighter:
		k.life, k.cost, k.raised = 12, 8, true
		k.skills[api.Move] = skill{takes: takesMove, stands: takesMove, keeps: keepsCell, acts: move}
		k.skills[api.Hit] = skill{takes: takesHit, stands: standsHit, keeps: keepsTarget, acts: hit}
	default:
		return k
	}
	k.skills[api.None] = skill{takes: takesAny, stands: takesAny, keeps: keepsNothing, acts: rest}
	return k
}

// skill for an order; false, if the kind can't do it.
func (k kind) skill(what int) (skill, bool) {
	if what < 0 || what >= len(k.skills) {
		return skill{}, false
	}
	s := k.skills[what]
	return s, s.acts != nil
}

func takesAny(g *Game, u api.Unit, c api.Command) bool {
	return true
}

func takesMove(g *Game, u api.Unit, c api.Command) bool {
	return land.Cell{X: c.X, Y: c.Y}.OnBoard() && g.Board[c.Y][c.X] != api.Rock
}

func takesMine(g *Game, u api.Unit, c api.Command) bool {
	return land.Cell{X: c.X, Y: c.Y}.OnBoard() && isOre(g.Board[c.Y][c.X])
}

func takesHit(g *Game, u api.Unit, c api.Command) bool {
	place, here := g.find(c.Target)
	return here && g.People[place].Owner != u.Owner
}

func takesBuild(g *Game, u api.Unit, c api.Command) bool {
	return kindOf(c.X).raised
}

// standsMine: a cell whose ore is gone is ground.
func standsMine(g *Game, u api.Unit, c api.Command) bool {
	return takesMove(g, u, c)
}

// standsHit: a target that is gone was somebody once. (It is not one's own Id: who has that is there.)
func standsHit(g *Game, u api.Unit, c api.Command) bool {
	if _, here := g.find(c.Target); here {
		return takesHit(g, u, c)
	}
	return c.Target >= 1 && c.Target < g.Next
}

func keepsNothing(c api.Command) api.Command {
	return api.Command{Unit: c.Unit, What: c.What}
}

func keepsCell(c api.Command) api.Command {
	return api.Command{Unit: c.Unit, What: c.What, X: c.X, Y: c.Y}
}

func keepsTarget(c api.Command) api.Command {
	return api.Command{Unit: c.Unit, What: c.What, Target: c.Target}
}

func keepsKind(c api.Command) api.Command {
	return api.Command{Unit: c.Unit, What: c.What, X: c.X}
}

// isOre: of a cell's number on the board.
func isOre(ground int) bool {
	return ground > 0 && ground < api.Rock
}
