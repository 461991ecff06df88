package land

import "skirmish/api"

// Map is what the text of a map says.
type Map struct {
	Board api.Board
	Bases [2]Cell
}

// nobody: the owner of a cell without a base.
const nobody = -1

// ReadMap reads a text; false, if it is no map.
func ReadMap(text string) (Map, bool) {
	const line = api.Side + 1
	if len(text) != api.Side*line {
		return Map{}, false
	}
	var m Map
	var bases [2]int
	for y := range api.Side {
		if text[y*line+api.Side] != '\n' {
			return Map{}, false
		}
		for x := range api.Side {
			ground, owner, known := readSign(text[y*line+x])
			if !known {
				return Map{}, false
			}
			m.Board[y][x] = ground
			if owner != nobody {
				m.Bases[owner] = Cell{x, y}
				bases[owner]++
			}
		}
	}
	if bases != [2]int{1, 1} {
		return Map{}, false
	}
	return m, true
}

// readSign: what a byte of a map says of its cell: the ground, and whose base stands there.
func readSign(sign byte) (ground, owner int, known bool) {
	switch {
	case sign == '.':
		return 0, nobody, true
	case sign == '#':
		return api.Rock, nobody, true
	case sign >= '1' && sign <= '9':
		return int(sign - '0'), nobody, true
	case sign == 'A':
		return 0, 0, true
	case sign == 'B':
		return 0, 1, true
	}
	return 0, nobody, false
}
