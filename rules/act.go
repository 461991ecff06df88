package rules

import (
	"skirmish/api"
	"skirmish/land"
)

// rest does nothing.
func rest(t *turn, u api.Unit) api.Unit {
	return u
}

// move goes to a cell.
func move(t *turn, u api.Unit) api.Unit {
	goal := land.Cell{X: u.ToX, Y: u.ToY}
	if cellOf(u) == goal {
		return idle(u)
	}
	return t.step(u, func(c land.Cell) bool { return c == goal })
}

// mine fetches ore, or brings what one has.
func mine(t *turn, u api.Unit) api.Unit {
	if u.Load > 0 {
		return bring(t, u)
	}
	goal := land.Cell{X: u.ToX, Y: u.ToY}
	ground := &t.game.Board[goal.Y][goal.X]
	if !isOre(*ground) {
		return idle(u)
	}
	if !cellOf(u).Adjacent(goal) {
		return t.step(u, goal.Adjacent)
	}
	u.Load = min(*ground, kindOf(u.Kind).load)
	*ground -= u.Load
	return u
}

// bring takes a load home.
func bring(t *turn, u api.Unit) api.Unit {
	base, here := t.game.base(u.Owner)
	if !here {
		return u
	}
	if !cellOf(u).Adjacent(cellOf(base)) {
		return t.step(u, cellOf(base).Adjacent)
	}
	stock := &t.game.Stocks[u.Owner]
	*stock = min(*stock+u.Load, api.MaxNumber)
	u.Load = 0
	return u
}

// hit harms somebody, or goes after them.
func hit(t *turn, u api.Unit) api.Unit {
	place, here := t.game.find(u.Target)
	if !here {
		return idle(u)
	}
	goal := cellOf(t.game.People[place])
	if !cellOf(u).Adjacent(goal) {
		return t.step(u, goal.Adjacent)
	}
	t.harm(place)
	return u
}

// build raises somebody beside the base.
func build(t *turn, u api.Unit) api.Unit {
	k := kindOf(u.ToX)
	if t.game.Stocks[u.Owner] < k.cost || len(t.game.People) >= api.MaxPeople || t.game.Next >= api.MaxNumber {
		return u
	}
	for _, c := range cellOf(u).Neighbours() {
		if t.free(c) {
			t.game.Stocks[u.Owner] -= k.cost
			t.held[c] = t.game.Next
			t.game.add(u.Owner, u.ToX, c)
			return idle(u)
		}
	}
	return u
}

// ordered: the same one with another order.
func ordered(u api.Unit, c api.Command) api.Unit {
	u.What, u.ToX, u.ToY, u.Target = c.What, c.X, c.Y, c.Target
	return u
}

// idle: the same one without an order.
func idle(u api.Unit) api.Unit {
	return ordered(u, api.Command{})
}
