package land

// Ways looks for shortest ways. All searches of a turn share its map, which each of them leaves empty.
type Ways struct {
	begins map[Cell]Cell // of each cell that was reached: the first cell of the way to it
}

// NewWays is ready for a search.
func NewWays() Ways {
	return Ways{begins: map[Cell]Cell{}}
}

// Step tells the first cell of a shortest way over free cells; if there is no way, the cell where one stands (which is not free, since one stands there).
//
// Cells are reached by their distance, and those of one distance in the order of the first cells of their ways: so the first end that is reached has the way that the order of the neighbours asks for.
func (w Ways) Step(from Cell, free, ends func(Cell) bool) Cell {
	defer clear(w.begins)
	reached := []Cell{from}
	for i := 0; i < len(reached); i++ {
		for _, n := range reached[i].Neighbours() {
			if _, known := w.begins[n]; known || !free(n) {
				continue
			}
			first := n
			if i > 0 {
				first = w.begins[reached[i]]
			}
			if ends(n) {
				return first
			}
			w.begins[n] = first
			reached = append(reached, n)
		}
	}
	return from
}
