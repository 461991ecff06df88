package rules

import "skirmish/api"

// MayBe tells whether a game may stand so. Its numbers are 0 to MaxNumber, its people MaxPeople at most: who reads a game sees to that.
func (g *Game) MayBe() bool {
	return g.boardMayBe() && g.idsMayBe() && g.peopleMayBe() && g.basesMayBe()
}

func (g *Game) boardMayBe() bool {
	for _, row := range g.Board {
		for _, ground := range row {
			if ground > api.Rock {
				return false
			}
		}
	}
	return true
}

// idsMayBe: the Ids rise from 1 on and are below the next one.
func (g *Game) idsMayBe() bool {
	last := 0
	for _, u := range g.People {
		if u.Id <= last {
			return false
		}
		last = u.Id
	}
	return last < g.Next
}

// peopleMayBe: of each alone, and that no two are on one cell. Their Ids must be known to rise, since people are found by them.
func (g *Game) peopleMayBe() bool {
	for _, u := range g.People {
		if !g.bodyMayBe(u) || !g.orderMayBe(u) {
			return false
		}
	}
	return len(cellsOf(g.People)) == len(g.People)
}

// bodyMayBe: whose one is, what, where, and in what state. (A kind that is not there has no life.)
func (g *Game) bodyMayBe(u api.Unit) bool {
	k := kindOf(u.Kind)
	return u.Owner <= 1 && u.Life >= 1 && u.Life <= k.life && u.Load <= k.load && cellOf(u).OnBoard() && g.Board[u.Y][u.X] == 0
}

func (g *Game) orderMayBe(u api.Unit) bool {
	c := api.Command{Unit: u.Id, What: u.What, X: u.ToX, Y: u.ToY, Target: u.Target}
	s, can := kindOf(u.Kind).skill(u.What)
	return can && s.keeps(c) == c && s.stands(g, u, c)
}

// basesMayBe: each player has one, or one of them has.
func (g *Game) basesMayBe() bool {
	var bases [2]int
	for _, u := range g.People {
		if u.Kind == api.Base {
			bases[u.Owner]++
		}
	}
	return bases[0] <= 1 && bases[1] <= 1 && bases[0]+bases[1] >= 1
}
