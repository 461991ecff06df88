// Package land: the cells of the board, what a map says of them, and the ways over them.
package land

import "skirmish/api"

// Cell of the board: its column and its row.
type Cell struct{ X, Y int }

// sides: how far off the neighbours are. Their order decides which of several shortest ways is gone.
var sides = [4]Cell{{0, -1}, {1, 0}, {0, 1}, {-1, 0}}

// OnBoard tells whether there is such a cell.
func (c Cell) OnBoard() bool {
	return c.X >= 0 && c.X < api.Side && c.Y >= 0 && c.Y < api.Side
}

// Neighbours tells the cells around, in the document's order.
func (c Cell) Neighbours() []Cell {
	var around []Cell
	for _, s := range sides {
		n := Cell{c.X + s.X, c.Y + s.Y}
		if n.OnBoard() {
			around = append(around, n)
		}
	}
	return around
}

// Adjacent tells whether one of two cells is a neighbour of the other.
func (c Cell) Adjacent(other Cell) bool {
	apart := Cell{other.X - c.X, other.Y - c.Y}
	for _, s := range sides {
		if apart == s {
			return true
		}
	}
	return false
}
