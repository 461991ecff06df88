package skirmish_test

import (
	"encoding/binary"
	"math/rand/v2"
	"slices"
	"strings"
	"testing"

	"skirmish/api"
	"skirmish/skirmish"
)

// figures: a state's content as its numbers. These are the places of some.
type figures []int

const (
	atTurn, atWinner, atStocks, atNext, atCells, atCount, atPeople, perUnit = 0, 1, 2, 4, 5, 149, 150, 11

	atId, atOwner, atKind, atX, atY, atLife, atLoad, atWhat, atToX, atToY, atTarget = 0, 1, 2, 3, 4, 5, 6, 7, 8, 9, 10
)

// text: the numbers are of the kind that the library writes.
func (f figures) text() string {
	var b []byte
	for _, n := range f {
		b = binary.AppendUvarint(b, uint64(n))
	}
	return string(b)
}

// figuresOf: what a text says in numbers; false, if it says something else.
func figuresOf(text string) (figures, bool) {
	var f figures
	for rest := []byte(text); len(rest) > 0; {
		n, size := binary.Uvarint(rest)
		if size < 1 || size > 5 || size > 1 && rest[size-1] == 0 {
			return nil, false
		}
		f = append(f, int(n))
		rest = rest[size:]
	}
	return f, true
}

// mayBe: what the document asks of a state, number by number.
func (f figures) mayBe() bool {
	if len(f) < atPeople || slices.Max(f) > 1000000000 || f[atCount] > 100 || len(f) != atPeople+f[atCount]*perUnit {
		return false
	}
	cells, people := f[atCells:atCount], slices.Collect(slices.Chunk(f[atPeople:], perUnit))
	if slices.Max(cells) > 10 {
		return false
	}
	var bases [2]int
	for i, u := range people {
		if u[atId] < 1 || u[atId] >= f[atNext] || i > 0 && u[atId] <= people[i-1][atId] {
			return false
		}
		if u[atOwner] > 1 || u[atKind] < 1 || u[atKind] > 3 || u[atX] > 11 || u[atY] > 11 || cells[12*u[atY]+u[atX]] != 0 {
			return false
		}
		if u[atLife] < 1 || u[atLife] > [4]int{0, 40, 8, 12}[u[atKind]] || u[atLoad] > [4]int{0, 0, 5, 0}[u[atKind]] {
			return false
		}
		for _, w := range people[:i] {
			if w[atX] == u[atX] && w[atY] == u[atY] {
				return false
			}
		}
		if !f.orderMayBe(u, people) {
			return false
		}
		if u[atKind] == 1 {
			bases[u[atOwner]]++
		}
	}
	switch bases {
	case [2]int{1, 1}:
		return f[atWinner] == 0
	case [2]int{1, 0}:
		return f[atWinner] == 1
	case [2]int{0, 1}:
		return f[atWinner] == 2
	}
	return false
}

func (f figures) orderMayBe(u figures, people []figures) bool {
	x, y, target := u[atToX], u[atToY], u[atTarget]
	switch u[atWhat] {
	case 0:
		return x == 0 && y == 0 && target == 0
	case 1, 2:
		who := u[atKind] == 2 || u[atKind] == 3 && u[atWhat] == 1
		return who && x < 12 && y < 12 && f[atCells+12*y+x] != 10 && target == 0
	case 3:
		for _, w := range people {
			if w[atId] == target && w[atOwner] == u[atOwner] {
				return false
			}
		}
		return u[atKind] == 3 && x == 0 && y == 0 && target > 0 && target < f[atNext] && target != u[atId]
	case 4:
		return u[atKind] == 1 && (x == 2 || x == 3) && y == 0 && target == 0
	}
	return false
}

// model: a game that stands as the numbers say, which may be.
func (f figures) model() *model {
	m := &model{state: api.State{Turn: f[atTurn], Winner: f[atWinner], Stocks: [2]int(f[atStocks:atNext])}, next: f[atNext]}
	for i, n := range f[atCells:atCount] {
		m.board[i/12][i%12] = n
	}
	for u := range slices.Chunk(f[atPeople:], perUnit) {
		m.all = append(m.all, &api.Unit{
			Id: u[atId], Owner: u[atOwner], Kind: u[atKind], X: u[atX], Y: u[atY], Life: u[atLife], Load: u[atLoad],
			What: u[atWhat], ToX: u[atToX], ToY: u[atToY], Target: u[atTarget],
		})
	}
	return m
}

// figures: how the model stands.
func (m *model) figures() figures {
	f := figures{m.state.Turn, m.state.Winner, m.state.Stocks[0], m.state.Stocks[1], m.next}
	for _, row := range m.board {
		f = append(f, row[:]...)
	}
	f = append(f, len(m.living()))
	for _, u := range m.living() {
		f = append(f, u.Id, u.Owner, u.Kind, u.X, u.Y, u.Life, u.Load, u.What, u.ToX, u.ToY, u.Target)
	}
	return f
}

// unit: one of the people in numbers; what is not given is 0.
func unit(numbers ...int) figures {
	return append(figures(numbers), make(figures, perUnit-len(numbers))...)
}

// stateOf: turn, winner, stocks, next Id; some cells by their places; people.
func stateOf(head [5]int, cells map[int]int, people ...figures) figures {
	f := append(figures(head[:]), make(figures, 144)...)
	for place, n := range cells {
		f[atCells+place] = n
	}
	f = append(f, len(people))
	for _, u := range people {
		f = append(f, u...)
	}
	return f
}

// crowded: a state with so many people, two of them bases.
func crowded(many int) figures {
	people := []figures{unit(1, 0, 1, 0, 0, 40, 0, 4, 2), unit(2, 1, 1, 11, 11, 40, 0, 4, 3)}
	for i := 2; i < many; i++ {
		people = append(people, unit(i+1, i%2, 2+i/2%2, i%12, 1+i/12, 1))
	}
	return stateOf([5]int{0, 0, 99, 99, many + 1}, nil, people...)
}

// rightStates: of all sorts, with all sorts of orders, and at the document's edges.
func rightStates() []figures {
	const most = 1000000000
	ground := map[int]int{14: 10, 15: 1, 16: 9, 17: 5, 143: 0}
	base, other := unit(1, 0, 1, 0, 0, 40), unit(2, 1, 1, 11, 11, 1)
	return []figures{
		stateOf([5]int{0, 0, 10, 10, 3}, nil, base, other),
		stateOf([5]int{127, 0, 128, 16383, 16384}, ground, base, other),
		stateOf([5]int{2097151, 0, 2097152, 268435455, 268435456}, ground, base, other),
		stateOf([5]int{most, 0, most, most, most}, ground, base, other, unit(most-1, 1, 3, 5, 5, 12, 0, 3, 0, 0, most-2)),
		stateOf([5]int{5, 0, 4, 7, 50}, ground,
			unit(4, 1, 3, 0, 0, 12, 0, 3, 0, 0, 9), // its target is there
			unit(7, 0, 1, 5, 0, 40, 0, 4, 2),
			unit(9, 0, 2, 6, 0, 8, 5, 2, 4, 1), // ore
			unit(10, 0, 2, 7, 0, 1, 0, 2, 7, 0),
			unit(20, 1, 1, 8, 0, 39, 0, 4, 3),
			unit(22, 1, 3, 9, 0, 1, 0, 3, 0, 0, 49), // its target is gone
			unit(23, 0, 3, 10, 0, 3, 0, 1, 11, 11),
			unit(49-1, 1, 2, 11, 0, 8, 1, 1, 0, 0)),
		stateOf([5]int{9, 1, 0, 0, 2}, ground, unit(1, 0, 1, 11, 0, 1, 0, 4, 3)),
		stateOf([5]int{9, 2, 0, 0, 9}, ground, unit(2, 1, 1, 0, 11, 1), unit(5, 0, 3, 4, 4, 2, 0, 3, 0, 0, 2), unit(8, 1, 3, 4, 5, 2, 0, 3, 0, 0, 1)),
		crowded(99),
		crowded(100),
	}
}

// readAs: Read of a text that tells this.
func readAs(t *testing.T, f figures) *skirmish.Game {
	t.Helper()
	g, e := skirmish.Read(f.text())
	if g == nil || e != api.OK {
		t.Fatalf("P4: Read of %v = %v, %d", f, g, e)
	}
	m := f.model()
	if w := told(g); w.state != m.state || !slices.Equal(w.people, m.living()) || w.cells != m.board {
		t.Fatalf("P4: Read of %v: %+v", f, w)
	}
	if s := g.Tell(); s != f.text() {
		t.Fatalf("P5: Read of %q tells %q", f.text(), s)
	}
	return g
}

// refused: Read of a text that tells no state.
func refused(t *testing.T, text string) {
	t.Helper()
	if g, e := skirmish.Read(text); g != nil || e != api.ErrForm {
		f, _ := figuresOf(text)
		t.Fatalf("P4: Read of %.1000q (%v) = %v, %d", text, f, g, e)
	}
}

// judged: Read of any text, held against mayBe; whether it is right.
func judged(t *testing.T, text string) bool {
	t.Helper()
	f, are := figuresOf(text)
	if are && f.mayBe() {
		readAs(t, f)
		return true
	}
	refused(t, text)
	return false
}

func TestTellOfANewGame(t *testing.T) {
	g := begun(t, "#19........B", "A")
	want := "\x00\x00\x0a\x0a\x03" + "\x0a\x01\x09" + strings.Repeat("\x00", 141) + "\x02" +
		"\x01\x00\x01\x00\x01\x28\x00\x00\x00\x00\x00" + "\x02\x01\x01\x0b\x00\x28\x00\x00\x00\x00\x00"
	if s := g.Tell(); s != want {
		t.Errorf("P4: Tell() = %q, want %q", s, want)
	}
}

// All orders, told where they belong.
func TestTellOfAllOrders(t *testing.T) {
	g := begun(t, "A..9.......B", "............", "5")
	played(t, g, raise(1, api.Worker), raise(2, api.Fighter)) // 3 at 1, 0; 4 at 11, 1
	played(t, g, commands{{Unit: 3, What: api.Mine, X: 3}}, commands{{Unit: 4, What: api.Hit, Target: 3}, {Unit: 2, What: api.Build, X: api.Fighter}})
	played(t, g, raise(1, api.Worker), nil) // 5 at 1, 0; 3 has a load
	played(t, g, commands{{Unit: 5, What: api.Move, X: 7, Y: 6}}, nil)
	want := stateOf([5]int{4, 0, 0, 2, 6}, map[int]int{3: 4, 24: 5},
		unit(1, 0, 1, 0, 0, 40), unit(2, 1, 1, 11, 0, 40, 0, 4, 3), unit(3, 0, 2, 2, 1, 8, 5, 2, 3),
		unit(4, 1, 3, 8, 1, 12, 0, 3, 0, 0, 3), unit(5, 0, 2, 1, 1, 8, 0, 1, 7, 6))
	if s, _ := figuresOf(g.Tell()); !slices.Equal(s, want) {
		t.Errorf("P4: Tell() = %v, want %v", s, want)
	}
}

func TestRightStates(t *testing.T) {
	for _, f := range rightStates() {
		if !f.mayBe() {
			t.Fatalf("the test is wrong: %v", f)
		}
		readAs(t, f)
	}
}

// Numbers in the place of each number of a state, one at a time.
func TestEachNumberChanged(t *testing.T) {
	for _, f := range rightStates()[1:7] {
		right, wrong := 0, 0
		for place := range f {
			instead := []int{0, 1, 2, 3, 4, 5, 6, 7, 8, 9, 10, 11, 12, 13, 22, 23, 39, 40, 41, 49, 50, 51, 99, 100, 101, 127, 128, 255, 256, 999999998, 999999999, 1000000000, 1000000001, 1<<32 + 1, 1 << 34}
			for _, n := range append(instead, max(f[place]-1, 0), f[place]+1) {
				changed := slices.Clone(f)
				changed[place] = n
				if judged(t, changed.text()) {
					right++
				} else {
					wrong++
				}
			}
		}
		if right < len(f) || wrong < len(f) {
			t.Errorf("this tells too little: %d right ones, %d wrong ones", right, wrong)
		}
	}
}

// Two numbers of one of the people, or one and its cell, at a time.
func TestTwoNumbersChanged(t *testing.T) {
	f := rightStates()[4]
	instead := []int{0, 1, 2, 3, 4, 5, 6, 8, 9, 11, 12, 13, 22, 40, 41, 49, 50}
	for begin := atPeople; begin < len(f); begin += perUnit {
		for a := range perUnit {
			for b := range a {
				for _, m := range instead {
					for _, n := range instead {
						changed := slices.Clone(f)
						changed[begin+a], changed[begin+b] = m, n
						judged(t, changed.text())
					}
				}
			}
		}
	}
}

func TestEachByteChanged(t *testing.T) {
	for _, f := range rightStates()[2:6] {
		text := f.text()
		for place := range text {
			for b := range 256 {
				judged(t, text[:place]+string([]byte{byte(b)})+text[place+1:])
			}
		}
	}
}

func TestTextsThatAreCutOrLonger(t *testing.T) {
	for _, f := range rightStates() {
		text := f.text()
		for place := range text {
			refused(t, text[:place])
			judged(t, text[place+1:])
			judged(t, text[:place]+text[place+1:])
			judged(t, text[:place]+"\x00"+text[place:])
		}
		for b := range 256 {
			refused(t, text+string([]byte{byte(b)}))
		}
		refused(t, text+text)
	}
}

// A number that is longer than it need be, at each place.
func TestLongNumbers(t *testing.T) {
	for _, f := range rightStates() {
		for place, n := range f {
			ahead, behind := f[:place].text(), f[place+1:].text()
			short := (figures{n}).text()
			last := len(short) - 1
			for _, zeros := range []string{"\x00", "\x80\x00", "\x80\x80\x00", "\x80\x80\x80\x00", "\x80\x80\x80\x80\x00", "\x80\x80\x80\x80\x80\x00"} {
				refused(t, ahead+short[:last]+string([]byte{short[last] | 128})+zeros+behind)
			}
		}
	}
}

func TestHundredAndOnePeople(t *testing.T) {
	g := readAs(t, crowded(100))
	if l := g.People(); len(l) != 100 {
		t.Errorf("P4: %d people", len(l))
	}
	refused(t, crowded(101).text())
	refused(t, crowded(128).text())
	f := crowded(100)
	for _, many := range []int{0, 1, 99, 101, 127, 128, 1000000000} {
		f[atCount] = many
		refused(t, f.text())
	}
}

func TestNextId(t *testing.T) {
	f := rightStates()[0]
	for next, right := range map[int]bool{0: false, 1: false, 2: false, 3: true, 4: true, 999999999: true, 1000000000: true, 1000000001: false} {
		f[atNext] = next
		if judged(t, f.text()) != right {
			t.Errorf("P4: next Id %d", next)
		}
	}
}

// Bases: one each or one in all, and the winner as they say.
func TestBasesAndWinner(t *testing.T) {
	first, second := unit(1, 0, 1, 0, 0, 40), unit(2, 1, 1, 11, 11, 40)
	worker := unit(9, 0, 2, 5, 5, 8)
	for _, c := range []struct {
		people []figures
		winner int // -1: none would do
	}{
		{[]figures{first, second}, 0},
		{[]figures{first}, 1},
		{[]figures{second}, 2},
		{[]figures{first, worker}, 1},
		{[]figures{second, worker}, 2},
		{nil, -1},
		{[]figures{worker}, -1},
		{[]figures{first, unit(2, 0, 1, 11, 11, 40)}, -1},
		{[]figures{first, second, unit(3, 0, 1, 5, 5, 40)}, -1},
		{[]figures{first, second, unit(3, 1, 1, 5, 5, 40)}, -1},
		{[]figures{second, unit(3, 1, 1, 5, 5, 40)}, -1},
	} {
		for _, winner := range []int{0, 1, 2, 3, 128, 1000000000} {
			f := stateOf([5]int{3, winner, 0, 0, 10}, nil, c.people...)
			if judged(t, f.text()) != (winner == c.winner) {
				t.Errorf("P4: winner %d of %v", winner, c.people)
			}
		}
	}
}

// Texts of any kind and any length (P1).
func TestTextsThatAreNoStates(t *testing.T) {
	right := rightStates()[4].text()
	for _, text := range []string{
		"", "\x00", "\x80", "state", mapOf("A..........B"),
		strings.Repeat("\x00", 10000000), strings.Repeat("\x01", 10000000), strings.Repeat("\x80", 10000000), strings.Repeat("\xff", 10000000),
		right + strings.Repeat("\x00", 10000000), strings.Repeat(right, 10000), "K\x02" + right,
		stateOf([5]int{0, 0, 0, 0, 1000000000}, nil).text()[:atCount] + "\x80\x94\xeb\xdc\x03",
		stateOf([5]int{0, 0, 0, 0, 1000000000}, nil).text()[:atCount] + "\xff\xff\xff\xff\x7f",
	} {
		refused(t, text)
	}
}

// randomState: mostly one that may be; what is at its bounds is there now and then.
func randomState(r *rand.Rand) figures {
	near := func(bound int) int { return []int{r.IntN(40), bound - r.IntN(12), r.IntN(bound)}[r.IntN(3)] }
	f := stateOf([5]int{near(1000000000), 0, near(1000000000), near(1000000000)}, nil)
	rock, ore := r.IntN(30), r.IntN(30)
	for i := atCells; i < atCount; i++ {
		if n := r.IntN(100); n < rock {
			f[i] = 10
		} else if n < rock+ore {
			f[i] = 1 + r.IntN(9)
		}
	}
	id, bases := 0, r.Perm(20)[:2]
	for _, cell := range r.Perm(144)[:20+r.IntN(81)] {
		if f[atCells+cell] != 0 {
			continue
		}
		id += 1 + r.IntN(3)
		u := unit(id, r.IntN(2), 2+r.IntN(2), cell%12, cell/12)
		if owner := slices.Index(bases, f[atCount]); owner >= 0 {
			u[atOwner], u[atKind] = owner, 1
		}
		u[atLife] = 1 + r.IntN([]int{0, 40, 8, 12}[u[atKind]])
		if u[atKind] == 2 {
			u[atLoad] = r.IntN(6)
		}
		randomOrder(r, u)
		f = append(f, u...)
		f[atCount]++
	}
	f[atNext] = id + 1 + r.IntN(3)
	if r.IntN(3) == 0 {
		f[atNext] = 1000000000 - r.IntN(3)
	}
	return f
}

// randomOrder: one that the kind can have, but for what the board and other people say to it.
func randomOrder(r *rand.Rand, u figures) {
	u[atWhat] = [4][3]int{1: {0, 4, 4}, 2: {0, 1, 2}, 3: {1, 3, 3}}[u[atKind]][r.IntN(3)]
	switch u[atWhat] {
	case 1, 2:
		u[atToX], u[atToY] = r.IntN(12), r.IntN(12)
	case 3:
		u[atTarget] = 1 + r.IntN(60)
	case 4:
		u[atToX] = 2 + r.IntN(2)
	}
}

// settle: the orders that may not stand are taken away, and the winner is told.
func (f figures) settle() figures {
	people := slices.Collect(slices.Chunk(f[atPeople:], perUnit))
	bases := 0
	for _, u := range people {
		if !f.orderMayBe(u, people) {
			clear(u[atWhat:])
		}
		if u[atKind] == 1 {
			bases += 1 + u[atOwner]
		}
	}
	f[atWinner] = bases % 3
	return f
}

// P4: states of all sorts, with and without a fault or two.
func TestRandomStates(t *testing.T) {
	r := rand.New(rand.NewPCG(13, 17))
	right, wrong := 0, 0
	for range 2000 {
		f := randomState(r)
		for range 3 {
			if judged(t, f.text()) {
				right++
			} else {
				wrong++
			}
			f.settle()
			if judged(t, f.text()) {
				right++
			}
			people := f[atPeople:]
			if len(people) > 0 {
				people[r.IntN(len(people))] = r.IntN(14)
			}
		}
	}
	if right < 2000 || wrong < 2000 {
		t.Errorf("this tells too little: %d right ones, %d wrong ones", right, wrong)
	}
}

// P3 and P5: games that were read go on as the model does, and as those that are told and read once more.
func TestReadGamesAgainstTheModel(t *testing.T) {
	r := rand.New(rand.NewPCG(19, 23))
	begun, ended := 0, 0
	for range 250 {
		f := randomState(r).settle()
		if !f.mayBe() {
			continue
		}
		a := alongside{t, readAs(t, f), f.model()}
		begun++
		for range 25 {
			a.play(randomCommands(r, a.game, 12), randomCommands(r, a.game, 12))
			if r.IntN(8) == 0 {
				a.game = readAs(t, a.m.figures())
			}
		}
		if f[atWinner] == 0 && a.m.state.Winner != 0 {
			ended++
		}
	}
	if begun < 100 || ended < 3 {
		t.Errorf("this tells too little: %d games were begun, %d ended", begun, ended)
	}
}

// P5: whatever a game has come to by its turns can be read, and goes on as it does.
func TestPlayedGamesAreRead(t *testing.T) {
	r := rand.New(rand.NewPCG(29, 31))
	ended := 0
	for range 40 {
		g, _ := skirmish.New(randomMap(r))
		var twins []*skirmish.Game
		for turn := range 250 {
			if turn%25 == 0 {
				h, e := skirmish.Read(g.Tell())
				if h == nil || e != api.OK {
					t.Fatalf("P5: Read of %q = %v, %d", g.Tell(), h, e)
				}
				twins = append(twins, h)
			}
			first, second := randomCommands(r, g, 3), randomCommands(r, g, 3)
			want := g.Play(first, second)
			for _, h := range twins {
				l := h.Play(first, second)
				if !slices.Equal(l[0], want[0]) || !slices.Equal(l[1], want[1]) || h.Tell() != g.Tell() {
					t.Fatalf("P5: turn %d: refused %v, want %v; %q, want %q", turn, l, want, h.Tell(), g.Tell())
				}
			}
		}
		if g.Look().Winner != 0 {
			ended++
		}
	}
	if ended == 0 {
		t.Error("this tells too little: no game ended")
	}
}

// The document's edges of orders, come to by turns: the ore of a Mine is gone, the Target of a Hit is gone.
func TestOrdersWhoseThingIsGone(t *testing.T) {
	g := readAs(t, stateOf([5]int{0, 0, 0, 0, 20}, map[int]int{5: 5},
		unit(1, 0, 1, 0, 0, 40), unit(2, 1, 1, 0, 11, 40),
		unit(3, 0, 2, 4, 0, 8), unit(4, 0, 2, 6, 0, 8), unit(5, 1, 3, 8, 4, 12), unit(6, 1, 3, 8, 6, 12), unit(7, 0, 2, 8, 5, 2)))
	played(t, g, commands{{Unit: 3, What: api.Mine, X: 5}}, commands{{Unit: 5, What: api.Hit, Target: 7}})
	if u, w := one(t, g, 3), one(t, g, 5); u.What != api.Mine || g.Cells()[0][5] != 0 || w.What != api.Hit || len(g.People()) != 6 {
		t.Fatalf("P3: %+v, %+v", u, w)
	}
	h, e := skirmish.Read(g.Tell())
	if h == nil || e != api.OK || h.Tell() != g.Tell() {
		t.Fatalf("P5: Read of %q = %v, %d", g.Tell(), h, e)
	}
	played(t, h, nil, nil)
	if u, w := one(t, h, 3), one(t, h, 5); u.X != 3 || u.Load != 5 || w.What != api.None || w.Target != 0 {
		t.Errorf("P5: %+v, %+v", u, w)
	}
}

// P5: a game that is over is one that is over.
func TestGamesThatAreOverAreRead(t *testing.T) {
	for _, f := range rightStates()[5:7] {
		g := readAs(t, f)
		base := g.People()[0]
		l := g.Play(commands{{Unit: base.Id}}, commands{{Unit: base.Id}})
		if len(l[0]) != 1 || len(l[1]) != 1 {
			t.Errorf("P5: refused: %v", l)
		}
		f[atTurn]++
		if g.Tell() != f.text() {
			t.Errorf("P5: a turn of a game that is over: %q, want %q", g.Tell(), f.text())
		}
	}
}

// P1: with ErrForm there is no game, and another one does not feel it. A game that New did not make tells no state that may be.
func TestWrongTextsChangeNothing(t *testing.T) {
	g, first, second := lively(t)
	before := g.Tell()
	for place := range before {
		refused(t, before[:place])
	}
	if g.Tell() != before {
		t.Errorf("P1: %q, want %q", g.Tell(), before)
	}
	played(t, g, first, second)
	var none *skirmish.Game
	refused(t, none.Tell())
	refused(t, new(skirmish.Game).Tell())
}

// P2: telling changes nothing, and what was told stays.
func TestTellChangesNothing(t *testing.T) {
	g, first, second := lively(t)
	quiet, _, _ := lively(t)
	var texts []string
	for turn := range 30 {
		for range 3 {
			texts = append(texts, g.Tell())
		}
		if i := 3 * turn; texts[i] != texts[i+1] || texts[i] != texts[i+2] {
			t.Fatalf("P2: told twice: %q, %q", texts[i], texts[i+1])
		}
		g.Play(first, second)
		quiet.Play(first, second)
	}
	if g.Tell() != quiet.Tell() {
		t.Errorf("P2: %q, want %q", g.Tell(), quiet.Tell())
	}
}

// P2: games that were read of one text, and the one that told it, do not feel each other.
func TestReadGamesAreApart(t *testing.T) {
	g, first, second := lively(t)
	text := g.Tell()
	a, _ := skirmish.Read(text)
	b, _ := skirmish.Read(text)
	if a == nil || b == nil {
		t.Fatalf("P4: Read of %q", text)
	}
	copied := *b
	var want []string
	for range 20 {
		g.Play(first, second)
		want = append(want, g.Tell())
	}
	if a.Tell() != text || b.Tell() != text {
		t.Fatalf("P2: %q and %q, want %q", a.Tell(), b.Tell(), text)
	}
	for i := range 20 {
		scribble(a.People(), api.Unit{Id: 1, Life: -7})
		a.Play(first, second)
		if a.Tell() != want[i] || b.Tell() != text {
			t.Fatalf("P2: turn %d: %q and %q, want %q and %q", i, a.Tell(), b.Tell(), want[i], text)
		}
	}
	for i := range 20 {
		copied.Play(first, second)
		if copied.Tell() != want[i] || b.Tell() != text {
			t.Fatalf("P2: turn %d of a copy: %q, want %q", i, copied.Tell(), want[i])
		}
	}
}
