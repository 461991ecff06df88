package skirmish_test

import (
	"encoding/binary"
	"fmt"
	"hash/crc32"
	"math"
	"math/rand/v2"
	"reflect"
	"slices"
	"strings"
	"testing"

	"skirmish/api"
	"skirmish/skirmish"
)

// frameOf: a frame.
func frameOf(sort byte, content string) string {
	return framed(sort, (figures{len(content)}).text(), content)
}

// framed: a frame with any bytes for its length.
func framed(sort byte, size, content string) string {
	return checked("K" + string([]byte{sort}) + size + content)
}

// checked: a text with its check behind it, as the library works it out.
func checked(text string) string {
	return string(binary.LittleEndian.AppendUint32([]byte(text), crc32.ChecksumIEEE([]byte(text))))
}

// turnOf: a turn's content in numbers.
func turnOf(number int, first, second commands) figures {
	f := figures{number}
	for _, list := range []commands{first, second} {
		f = append(f, len(list))
		for _, c := range list {
			f = append(f, c.Unit, c.What, c.X, c.Y, c.Target)
		}
	}
	return f
}

func turnFrame(number int, first, second commands) string {
	return frameOf(1, turnOf(number, first, second).text())
}

// opened: a record of some files, which must be one.
func opened(t *testing.T, files ...api.File) *skirmish.Record {
	t.Helper()
	r, e := skirmish.Open(files)
	if r == nil || e != api.OK {
		t.Fatalf("P9: Open(%.1000q) = %v, %d", files, r, e)
	}
	return r
}

func recorded(t *testing.T, lines ...string) *skirmish.Record {
	t.Helper()
	r, e := skirmish.Begin(mapOf(lines...))
	if r == nil || e != api.OK {
		t.Fatalf("P6: Begin(%q) = %v, %d", lines, r, e)
	}
	return r
}

// playedOn: a turn that a record takes.
func playedOn(t *testing.T, r *skirmish.Record, first, second commands) [][]int {
	t.Helper()
	l, e := r.Play(first, second)
	if len(l) != 2 || e != api.OK {
		t.Fatalf("P6: Play of %d and %d commands = %v, %d", len(first), len(second), l, e)
	}
	return l
}

func logOf(t *testing.T, r *skirmish.Record) string {
	t.Helper()
	for _, f := range r.Files() {
		if f.Name == "log" {
			return f.Data
		}
	}
	t.Fatalf("P6: there is no log: %q", r.Files())
	return ""
}

// wholeRecord: whatever a record tells.
type wholeRecord struct {
	game  string
	files []api.File
	steps []api.Step
}

func toldBy(r *skirmish.Record) wholeRecord {
	return wholeRecord{r.Game().Tell(), r.Files(), r.Steps()}
}

// copied: the same in other memory.
func (w wholeRecord) copied() wholeRecord {
	return wholeRecord{w.game, slices.Clone(w.files), slices.Clone(w.steps)}
}

// tellsAll: a record tells this, and nothing else.
func tellsAll(t *testing.T, r *skirmish.Record, want wholeRecord) {
	t.Helper()
	if now := toldBy(r); !reflect.DeepEqual(now, want) {
		t.Fatalf("P1, P2: the record tells %s, want %s", brief(now), brief(want))
	}
}

// brief: logs may be long.
func brief(w wholeRecord) string {
	text := fmt.Sprintf("game %q, files %q, steps %+v", w.game, w.files, w.steps)
	return text[:min(len(text), 3000)]
}

func TestBegin(t *testing.T) {
	r := recorded(t, "A...5......B")
	g := begun(t, "A...5......B")
	if r.Game().Tell() != g.Tell() {
		t.Errorf("P6: behind Begin: %q, want %q", r.Game().Tell(), g.Tell())
	}
	if l, want := r.Files(), []api.File{{Name: "log", Data: frameOf(2, g.Tell())}}; !slices.Equal(l, want) {
		t.Errorf("P6: the files behind Begin: %q, want %q", l, want)
	}
	if n := r.Sync(); n != 0 {
		t.Errorf("P6: Sync() = %d", n)
	}
}

func TestBeginWithoutAMap(t *testing.T) {
	right := mapOf("A..........B")
	for _, text := range []string{"", right[1:], right + "\n", mapOf("A"), strings.ToLower(right), frameOf(2, right), strings.Repeat("A", 1000000)} {
		if r, e := skirmish.Begin(text); r != nil || e != api.ErrMap {
			t.Errorf("P6: Begin(%.40q) = %v, %d", text, r, e)
		}
	}
}

// A log byte by byte, without any help.
func TestLogInBytes(t *testing.T) {
	r := recorded(t, "A..........B")
	playedOn(t, r, nil, commands{})
	playedOn(t, r, commands{{Unit: 1, What: api.Build, X: api.Worker, Target: 300}}, commands{{}, {Unit: 2}})
	ground := "\x00\x00\x0a\x0a\x03" + strings.Repeat("\x00", 144) + "\x02\x01\x00\x01\x00\x00\x28\x00\x00\x00\x00\x00\x02\x01\x01\x0b\x00\x28\x00\x00\x00\x00\x00"
	want := "K\x02\xac\x01" + ground + "\xfb\xfe\xf5\x3a" +
		"K\x01\x03\x00\x00\x00\x52\xdd\x88\xfb" +
		"K\x01\x13\x01\x01\x01\x04\x02\x00\xac\x02\x02\x00\x00\x00\x00\x00\x02\x00\x00\x00\x00" + "\xdd\xdf\x71\xb6"
	if got := logOf(t, r); got != want {
		t.Errorf("P6: the log is %q, want %q", got, want)
	}
}

// P6: records that are played, synced, folded and opened go as the model does; the log is as the document says behind each of these.
func TestRecordsAgainstTheModel(t *testing.T) {
	rnd := rand.New(rand.NewPCG(37, 41))
	for range 30 {
		text := randomMap(rnd)
		r, e := skirmish.Begin(text)
		if e != api.OK {
			t.Fatalf("P6: Begin(%q) = %d", text, e)
		}
		m := modelOf(text)
		log := frameOf(2, m.figures().text())
		for range 120 {
			switch rnd.IntN(12) {
			case 0:
				if n := r.Sync(); n != m.state.Turn {
					t.Fatalf("P6: Sync() = %d, want %d", n, m.state.Turn)
				}
			case 1:
				r.Fold()
				log = frameOf(2, m.figures().text())
			case 2:
				r = opened(t, r.Files()...)
			default:
				first, second := randomCommands(rnd, r.Game(), 4), randomCommands(rnd, r.Game(), 4)
				l := playedOn(t, r, first, second)
				first, second = written(first), written(second)
				want := m.play([2]commands{first, second})
				if !slices.Equal(l[0], want[0]) || !slices.Equal(l[1], want[1]) {
					t.Fatalf("P6: turn %d: refused %v, want %v", m.state.Turn, l, want)
				}
				log += turnFrame(m.state.Turn-1, first, second)
			}
			if got := r.Files(); !slices.Equal(got, []api.File{{Name: "log", Data: log}}) {
				t.Fatalf("P6: turn %d: the files are %q, want the log %q", m.state.Turn, got, log)
			}
			if g := r.Game(); g.Tell() != m.figures().text() {
				t.Fatalf("P6: turn %d: the game tells %q, want %q", m.state.Turn, g.Tell(), m.figures().text())
			}
		}
	}
}

// written: commands as a record writes them.
func written(list commands) commands {
	list = slices.Clone(list)
	for i, c := range list {
		for _, n := range []int{c.Unit, c.What, c.X, c.Y, c.Target} {
			if n < 0 || n > 1000000000 {
				list[i] = api.Command{}
			}
		}
	}
	return list
}

// Numbers that cannot be written, in commands that a game would take and in others, used and unused.
func TestNumbersThatCannotBeWritten(t *testing.T) {
	for _, n := range []int{math.MinInt, -1000000001, -1, 1000000001, 1 << 32, math.MaxInt} {
		r := recorded(t, "A.5........B")
		g := begun(t, "A.5........B")
		begin := logOf(t, r)
		first := commands{
			{Unit: 1, What: api.Build, X: api.Worker, Y: n},
			{Unit: 1, What: api.None, Target: n},
			{Unit: n, What: api.None},
			{Unit: 1, What: n},
			{Unit: 1, What: api.Build, X: n},
			{Unit: 1, What: api.Build, X: api.Fighter, Target: n},
			{Unit: n, What: n, X: n, Y: n, Target: n},
		}
		second := commands{{Unit: 2, X: n}, {Unit: 2, What: api.Build, X: api.Worker}, {Unit: 2, Y: n}}
		kept := [2]commands{slices.Clone(first), slices.Clone(second)}
		l := playedOn(t, r, first, second)
		if !reflect.DeepEqual(l, [][]int{{0, 1, 2, 3, 4, 5, 6}, {0, 2}}) {
			t.Errorf("P6: with %d refused are %v", n, l)
		}
		if !slices.Equal(first, kept[0]) || !slices.Equal(second, kept[1]) {
			t.Errorf("P2: the lists are changed: %v, %v", first, second)
		}
		g.Play(nil, raise(2, api.Worker))
		if r.Game().Tell() != g.Tell() {
			t.Errorf("P6: with %d: %q, want %q", n, r.Game().Tell(), g.Tell())
		}
		want := begin + turnFrame(0, make(commands, 7), commands{{}, second[1], {}})
		if log := logOf(t, r); log != want {
			t.Errorf("P6: with %d the log is %q, want %q", n, log, want)
		}
	}
}

// The greatest number can be written, and is no reason to refuse where it is not used.
func TestTheGreatestNumber(t *testing.T) {
	const n = 1000000000
	r := recorded(t, "A.5........B")
	begin := logOf(t, r)
	first := commands{
		{Unit: 1, What: api.Build, X: api.Worker, Y: n, Target: n},
		{Unit: 1, What: n}, {Unit: n}, {Unit: 1, What: api.Build, X: n}, {Unit: n, What: n, X: n, Y: n, Target: n},
	}
	second := commands{{Unit: 2, X: n, Y: n, Target: n}, {Unit: 2, What: api.Move, X: n}}
	if l := playedOn(t, r, first, second); !reflect.DeepEqual(l, [][]int{{1, 2, 3, 4}, {1}}) {
		t.Errorf("P6: refused are %v", l)
	}
	if log := logOf(t, r); log != begin+turnFrame(0, first, second) {
		t.Errorf("P6: the log is %q", log)
	}
	if g := r.Game(); len(g.People()) != 3 || one(t, g, 1).What != api.None {
		t.Errorf("P6: %+v", g.People())
	}
}

// many: so many commands, of so many bytes in all.
func many(number, bytes int) commands {
	list := make(commands, number)
	more := bytes - 5*number
	for i := range list {
		c := &list[i]
		for _, place := range []*int{&c.Unit, &c.What, &c.X, &c.Y, &c.Target} {
			if step := min(more, 4); step > 0 {
				*place = 1 << (7 * step)
				more -= step
			}
		}
	}
	return list
}

// The longest turns, and what is longer. The number and the counts are 4 bytes, if one of the players says at most 127 commands.
func TestLongTurns(t *testing.T) {
	r := recorded(t, "A..........B")
	for _, c := range []struct {
		first, second commands
		fits          bool
	}{
		{many(7999, 39995), nil, true},
		{many(7999, 39996), nil, true},
		{many(7999, 39997), nil, false},
		{nil, many(7999, 39996), true},
		{nil, many(7999, 39997), false},
		{many(1600, 39996), nil, true},
		{many(1600, 39997), nil, false},
		{many(1600, 40000), nil, false},
		{many(100, 500), many(7899, 39496), true},
		{many(100, 500), many(7899, 39497), false},
		{many(4000, 20000), many(3999, 19995), true},
		{many(4000, 20001), many(3999, 19995), false},
		{many(8000, 40000), nil, false},
		{nil, many(8000, 40000), false},
		{many(8000, 40000), many(8000, 40000), false},
		{many(20000, 100000), nil, false},
		{make(commands, 10000000), make(commands, 10000000), false},
		{slices.Repeat(commands{{Unit: math.MaxInt, What: 1e9, X: 1e9, Y: 1e9, Target: 1e9}}, 7999), nil, true},
		{slices.Repeat(commands{{Unit: math.MaxInt, What: 1e9, X: 1e9, Y: 1e9, Target: 1e9}}, 8000), nil, false},
	} {
		before := toldBy(r)
		l, e := r.Play(c.first, c.second)
		if !c.fits {
			if l != nil || e != api.ErrFull {
				t.Errorf("P6: Play of %d and %d commands = %d lists, %d", len(c.first), len(c.second), len(l), e)
			}
			tellsAll(t, r, before)
			continue
		}
		if len(l) != 2 || e != api.OK {
			t.Fatalf("P6: Play of %d and %d commands = %d lists, %d", len(c.first), len(c.second), len(l), e)
		}
		turn := r.Game().Look().Turn - 1
		if log := logOf(t, r); log != before.files[0].Data+turnFrame(turn, written(c.first), written(c.second)) {
			t.Errorf("P6: the frame of %d and %d commands is wrong", len(c.first), len(c.second))
		}
	}
	again := opened(t, r.Files()...)
	if !reflect.DeepEqual(again.Files(), r.Files()) || again.Game().Tell() != r.Game().Tell() {
		t.Errorf("P9: long turns are not found again: turn %d, want %d", again.Game().Look().Turn, r.Game().Look().Turn)
	}
}

// A turn's number is a byte longer from 128 on, and its content with it.
func TestLongTurnsWithALongNumber(t *testing.T) {
	r := recorded(t, "A..........B")
	for range 127 {
		playedOn(t, r, nil, nil)
	}
	playedOn(t, r, many(7999, 39996), nil)
	before := toldBy(r)
	if l, e := r.Play(many(7999, 39996), nil); l != nil || e != api.ErrFull {
		t.Errorf("P6: Play of a content of 40001 bytes = %v, %d", l, e)
	}
	tellsAll(t, r, before)
	playedOn(t, r, many(7999, 39995), nil)
	if n := r.Sync(); n != 129 {
		t.Errorf("P6: Sync() = %d", n)
	}
}

// atTurnFile: the log of a game that is at some turn.
func atTurnFile(turn int) api.File {
	f := rightStates()[4]
	f[atTurn] = turn
	return api.File{Name: "log", Data: frameOf(2, f.text())}
}

func TestTheLastTurn(t *testing.T) {
	r := opened(t, atTurnFile(999999998))
	begin := logOf(t, r)
	playedOn(t, r, nil, nil)
	if l := playedOn(t, r, commands{{Unit: 7}, {Unit: 20}}, commands{{Unit: 20}}); !reflect.DeepEqual(l, [][]int{{1}, nil}) {
		t.Errorf("P6: the last turn refuses %v", l)
	}
	want := begin + turnFrame(999999998, nil, nil) + turnFrame(999999999, commands{{Unit: 7}, {Unit: 20}}, commands{{Unit: 20}})
	if logOf(t, r) != want {
		t.Errorf("P6: the log is %q, want %q", logOf(t, r), want)
	}
	before := toldBy(r)
	for _, list := range []commands{nil, {{Unit: 7}}, {{Unit: -1}}, make(commands, 8000)} { // both errors apply to the last one
		if l, e := r.Play(list, list); l != nil || e != api.ErrOver {
			t.Errorf("P6: Play behind the last turn = %v, %d", l, e)
		}
		tellsAll(t, r, before)
	}
	again := opened(t, r.Files()...)
	if n := again.Sync(); n != 1000000000 || again.Game().Tell() != before.game || logOf(t, again) != want {
		t.Errorf("P9: behind the last turn: %d turns, %q", n, again.Files())
	}
	if n := r.Sync(); n != 1000000000 {
		t.Errorf("P6: Sync() = %d", n)
	}
	r.Fold()
	if logOf(t, r) != frameOf(2, before.game) || r.Game().Tell() != before.game {
		t.Errorf("P6: the log behind Fold = %q", logOf(t, r))
	}
	if l, e := opened(t, r.Files()...).Play(nil, nil); l != nil || e != api.ErrOver {
		t.Errorf("P6: Play behind the last turn = %v, %d", l, e)
	}
}

// The turns of a game that is over are recorded like others.
func TestRecordOfAGameThatIsOver(t *testing.T) {
	f := rightStates()[5]
	r := opened(t, api.File{Name: "log", Data: frameOf(2, f.text())})
	first := commands{{Unit: 1}, {Unit: -1}}
	if l := playedOn(t, r, first, nil); !reflect.DeepEqual(l, [][]int{{0, 1}, nil}) {
		t.Errorf("P6: refused are %v", l)
	}
	if want := frameOf(2, f.text()) + turnFrame(9, commands{{Unit: 1}, {}}, nil); logOf(t, r) != want {
		t.Errorf("P6: the log is %q, want %q", logOf(t, r), want)
	}
	f[atTurn]++
	if again := opened(t, r.Files()...); again.Game().Tell() != f.text() || r.Game().Tell() != f.text() {
		t.Errorf("P9: %q and %q, want %q", again.Game().Tell(), r.Game().Tell(), f.text())
	}
}

// busy: a record of some turns, some of them safe.
func busy(t *testing.T) (r *skirmish.Record, first, second commands) {
	t.Helper()
	r = recorded(t, "A..9.......B")
	playedOn(t, r, raise(1, api.Worker), raise(2, api.Fighter))
	r.Sync()
	first = commands{{Unit: 3, What: api.Mine, X: 3, Target: 5}, {Unit: 77}, {Unit: 1, What: api.Build, X: api.Worker, Y: 5}}
	second = commands{{Unit: 4, What: api.Hit, X: 5, Target: 3}, {Unit: 4, Y: -1}, {Unit: 2, What: api.Build, X: api.Fighter}}
	playedOn(t, r, first, second)
	return r, first, second
}

// P6 and P2: the game that a record hands out is a copy.
func TestCopiesOfTheGame(t *testing.T) {
	r, first, second := busy(t)
	twin, _, _ := busy(t)
	for range 20 {
		before := toldBy(r)
		g, h := r.Game(), r.Game()
		for range 5 {
			g.Play(second, first)
			g.Play(first, second)
		}
		scribble(g.People(), api.Unit{Id: 1, Life: -7})
		*g = *begun(t, "B..........A")
		tellsAll(t, r, before)
		if h.Tell() != before.game {
			t.Fatalf("P2: a second copy tells %q, want %q", h.Tell(), before.game)
		}
		r.Play(first, second)
		twin.Play(first, second)
		if h.Tell() != before.game {
			t.Fatalf("P6: a copy goes on with the record: %q, want %q", h.Tell(), before.game)
		}
		h.Play(written(first), written(second))
		if h.Tell() != r.Game().Tell() {
			t.Fatalf("P6: a copy goes another way: %q, want %q", h.Tell(), r.Game().Tell())
		}
	}
	tellsAll(t, r, toldBy(twin))
}

// P2: lists that are handed to Play.
func TestListsThatARecordIsGiven(t *testing.T) {
	r, first, second := busy(t)
	twin, _, _ := busy(t)
	mine, yours := slices.Clone(first), slices.Clone(second)
	r.Play(mine, yours)
	twin.Play(first, second)
	if !slices.Equal(mine, first) || !slices.Equal(yours, second) {
		t.Errorf("P2: the lists are changed: %v, %v", mine, yours)
	}
	clear(mine)
	clear(yours)
	for range 10 {
		tellsAll(t, r, toldBy(twin))
		r.Play(nil, nil)
		twin.Play(nil, nil)
	}
}

// P2: lists that a record hands out may be written into, and do not change later.
func TestListsThatARecordTells(t *testing.T) {
	r, first, second := busy(t)
	twin, _, _ := busy(t)
	var earlier, copies []wholeRecord
	for i := range 12 {
		l, want := playedOn(t, r, first, second), playedOn(t, twin, first, second)
		if !reflect.DeepEqual(l, want) || len(l[0]) == 0 || len(l[1]) == 0 {
			t.Fatalf("P2: turn %d refuses %v, want %v", i, l, want)
		}
		scribble(l[0], -7)
		if !slices.Equal(l[1], want[1]) {
			t.Errorf("P2: the lists of one answer share room: %v", l)
		}
		scribble(l[1], -7)
		scribble(l, nil)
		if i%4 == 3 {
			r.Fold()
			twin.Fold()
		}
		if i%3 == 2 {
			r.Sync()
			twin.Sync()
		}
		earlier = append(earlier, toldBy(r))
		copies = append(copies, earlier[i].copied())
		scribble(r.Files(), api.File{Name: "x", Data: "y"})
		scribble(r.Steps(), api.Step{What: 7, Name: "log"})
		tellsAll(t, r, toldBy(twin))
	}
	if !reflect.DeepEqual(earlier, copies) {
		t.Error("P2: what came out before is changed")
	}
}

// P2: asking changes nothing, and records do not feel each other.
func TestRecordsAreApart(t *testing.T) {
	alone, first, second := busy(t)
	r, _, _ := busy(t)
	other := recorded(t, "9A.........B")
	child := opened(t, r.Files()...)
	for i := range 20 {
		alone.Play(first, second)
		r.Play(first, second)
		other.Play(second, first)
		child.Play(nil, second)
		if i%5 == 0 {
			alone.Fold()
			r.Fold()
			child.Sync()
			other.Fold()
		}
		for range 3 {
			tellsAll(t, r, toldBy(alone))
		}
	}
}

// P1: records that neither Begin nor Open made.
func TestRecordsThatBeginDidNotMake(t *testing.T) {
	var none *skirmish.Record
	for _, r := range []*skirmish.Record{none, {}} {
		if l := r.Files(); len(l) != 0 {
			t.Errorf("P1: Files() = %q", l)
		}
		if l := r.Steps(); len(l) != 0 {
			t.Errorf("P1: Steps() = %+v", l)
		}
		for range 2 {
			if g := r.Game(); g == nil || len(g.People()) != 0 {
				t.Errorf("P1: Game() = %v", g)
			}
			if l, e := r.Play(commands{{Unit: 1}}, nil); !reflect.DeepEqual(l, [][]int{{0}, nil}) || e != api.OK {
				t.Errorf("P1: Play = %v, %d", l, e)
			}
			if l, e := r.Play(make(commands, 8000), nil); l != nil || e != api.ErrFull {
				t.Errorf("P1: Play = %v, %d", l, e)
			}
			r.Sync()
			r.Fold()
			r.Files()
			r.Steps()
		}
	}
}
