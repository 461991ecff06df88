// Package content: what stands in frames: a state and a turn in bytes.
package content

import (
	"skirmish/api"
	"skirmish/number"
	"skirmish/rules"
)

// TellState writes a game down.
func TellState(g rules.Game) string {
	text := number.Append(nil, g.Turn, g.Winner(), g.Stocks[0], g.Stocks[1], g.Next)
	for _, row := range g.Board {
		text = number.Append(text, row[:]...)
	}
	text = number.Append(text, len(g.People))
	for _, u := range g.People {
		text = number.Append(text, u.Id, u.Owner, u.Kind, u.X, u.Y, u.Life, u.Load)
		text = number.Append(text, u.What, u.ToX, u.ToY, u.Target)
	}
	return string(text)
}

// ReadState reads a game; false, if the text tells none that may be.
func ReadState(text string) (rules.Game, bool) {
	r := number.NewReader(text)
	var g rules.Game
	g.Turn = r.Next()
	winner := r.Next()
	g.Stocks = [2]int{r.Next(), r.Next()}
	g.Next = r.Next()
	for y := range g.Board {
		for x := range g.Board[y] {
			g.Board[y][x] = r.Next()
		}
	}
	people := r.Next()
	if people > api.MaxPeople {
		return rules.Game{}, false
	}
	for range people {
		g.People = append(g.People, readUnit(r))
	}
	if !r.Done() || !g.MayBe() || g.Winner() != winner {
		return rules.Game{}, false
	}
	return g, true
}

// readUnit reads one of the people: the calls are made in the order in which they are written.
func readUnit(r *number.Reader) api.Unit {
	return api.Unit{
		Id:     r.Next(),
		Owner:  r.Next(),
		Kind:   r.Next(),
		X:      r.Next(),
		Y:      r.Next(),
		Life:   r.Next(),
		Load:   r.Next(),
		What:   r.Next(),
		ToX:    r.Next(),
		ToY:    r.Next(),
		Target: r.Next(),
	}
}
