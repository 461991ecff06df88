package skirmish_test

import (
	"math/rand/v2"
	"slices"
	"strconv"
	"strings"
	"testing"

	"skirmish/api"
	"skirmish/skirmish"
)

// notOpened: files that are no record.
func notOpened(t *testing.T, files ...api.File) {
	t.Helper()
	if r, e := skirmish.Open(files); r != nil || e != api.ErrForm {
		t.Fatalf("P9: Open(%.600q) = %v, %d", files, r, e)
	}
}

// logFile: a log alone.
func logFile(text string) api.File {
	return api.File{Name: "log", Data: text}
}

// pieces: the frames of a log, and the games behind each.
type pieces struct {
	frames, games []string
}

// somePieces: a state and some turns, with no commands and with many.
func somePieces(t *testing.T) pieces {
	t.Helper()
	g := begun(t, "A..9.......B", "............", "5")
	p := pieces{[]string{frameOf(2, g.Tell())}, []string{g.Tell()}}
	for turn, lists := range [][2]commands{
		{raise(1, api.Worker), raise(2, api.Fighter)},
		{nil, nil},
		{{{Unit: 3, What: api.Mine, X: 3}, {Unit: 300, Y: 1000000000}, {}}, {{Unit: 4, What: api.Hit, Target: 3}}},
		{nil, slices.Repeat(commands{{Unit: 4, What: api.Move, X: 5, Y: 5, Target: 999}}, 30)},
		{{{Unit: 1}}, nil},
	} {
		p.frames = append(p.frames, turnFrame(turn, lists[0], lists[1]))
		g.Play(lists[0], lists[1])
		p.games = append(p.games, g.Tell())
	}
	return p
}

// log: all of it, or its first frames.
func (p pieces) log(frames int) string {
	return strings.Join(p.frames[:frames], "")
}

// finds: Open of a log finds the game of so many turns; what is behind them is thrown away.
func (p pieces) finds(t *testing.T, text string, turns int) {
	t.Helper()
	r := opened(t, logFile(text))
	if g := r.Game(); g.Tell() != p.games[turns] {
		t.Fatalf("P9: Open of the log %q: turn %d, want %d", text, g.Look().Turn, turns)
	}
	want := text
	if text != p.log(turns+1) {
		want = frameOf(2, p.games[turns])
	}
	if l := r.Files(); !slices.Equal(l, []api.File{logFile(want)}) {
		t.Fatalf("P9: Open of the log %q: the files are %q, want the log %q", text, l, want)
	}
	if left := diskOf([]api.File{logFile(text)}).do(t, r.Steps()...).files(); !slices.Equal(left, r.Files()) {
		t.Fatalf("P7: the steps lead to %q, but the files are %q", left, r.Files())
	}
	if n := r.Sync(); n != turns {
		t.Fatalf("P6: Sync() = %d, want %d", n, turns)
	}
}

func TestOpenOfWholeLogs(t *testing.T) {
	p := somePieces(t)
	for turns := range p.games {
		p.finds(t, p.log(turns+1), turns)
	}
}

// A log that is folded in its midst is one that begins there.
func TestOpenOfFoldedLogs(t *testing.T) {
	p := somePieces(t)
	for begin, game := range p.games {
		r := opened(t, logFile(frameOf(2, game)+strings.Join(p.frames[begin+1:], "")))
		if r.Game().Tell() != p.games[5] || len(logOf(t, r)) != len(frameOf(2, game)+strings.Join(p.frames[begin+1:], "")) {
			t.Errorf("P9: a log that begins at turn %d: %q, want %q", begin, r.Game().Tell(), p.games[5])
		}
	}
}

func TestLogsThatAreCut(t *testing.T) {
	p := somePieces(t)
	log := p.log(6)
	for size := range log {
		turns, behind := -1, 0
		for _, f := range p.frames {
			if behind += len(f); behind <= size {
				turns++
			}
		}
		if turns < 0 {
			notOpened(t, logFile(log[:size]))
		} else {
			p.finds(t, log[:size], turns)
		}
	}
}

func TestLogsWithAByteChanged(t *testing.T) {
	p := somePieces(t)
	log := p.log(6)
	for place := range log {
		frame, behind := 0, 0
		for _, f := range p.frames {
			if behind += len(f); behind <= place {
				frame++
			}
		}
		for change := 1; change < 256; change++ {
			text := log[:place] + string([]byte{log[place] ^ byte(change)}) + log[place+1:]
			if frame == 0 {
				notOpened(t, logFile(text))
			} else {
				p.finds(t, text, frame-1)
			}
		}
	}
}

func TestLogsWithBytesMoreOrFewer(t *testing.T) {
	p := somePieces(t)
	log, first := p.log(6), len(p.frames[0])
	for place := range log {
		for _, text := range []string{log[:place] + log[place+1:], log[:place] + "\x00" + log[place:], log[:place] + "K" + log[place:]} {
			if place < first && text[:first] != log[:first] {
				notOpened(t, logFile(text))
				continue
			}
			r := opened(t, logFile(text))
			if k := r.Game().Look().Turn; r.Game().Tell() != p.games[k] || !strings.HasPrefix(text, p.log(k+1)) {
				t.Fatalf("P9: Open of the log %q: turn %d, %q", text, k, r.Game().Tell())
			}
		}
	}
}

// wrongTurns: frames that are not this turn's, though their check is right.
func wrongTurns(number int, fine figures) []string {
	wrong := []string{
		frameOf(1, ""), frameOf(1, fine.text()+"\x00"), frameOf(1, fine.text()+fine.text()),
		turnFrame(number, many(7999, 39997), nil), turnFrame(number, make(commands, 20000), nil),
		frameOf(1, (figures{number, 1000000000, 0}).text()), frameOf(1, (figures{number, 0, 1000000000}).text()), frameOf(1, (figures{number, 1 << 34, 0}).text()),
		frameOf(1, (figures{number, 2, 0, 0, 0, 0, 0, 0}).text()), frameOf(1, (figures{number, 0, 0, 0, 0, 0, 0, 0}).text()),
	}
	for _, other := range []int{0, 1, 2, 3, 4, number + 128, number + 256, 1000000000, 1000000001} {
		if other != number {
			wrong = append(wrong, turnFrame(other, nil, nil))
		}
	}
	for sort := range 256 {
		if sort != 1 {
			wrong = append(wrong, frameOf(byte(sort), fine.text()))
		}
	}
	for _, head := range []string{"", "K", "\x01", "k\x01", "L\x01", "\x00\x01"} {
		wrong = append(wrong, checked(head+(figures{len(fine.text())}).text()+fine.text()))
	}
	for place := range fine {
		short := (figures{fine[place]}).text()
		last := len(short) - 1
		for _, zeros := range []string{"\x00", "\x80\x00", "\x80\x80\x80\x00", "\x80\x80\x80\x80\x80\x00"} { // longer than need be
			long := short[:last] + string([]byte{short[last] | 128}) + zeros
			wrong = append(wrong, frameOf(1, fine[:place].text()+long+fine[place+1:].text()))
		}
		for _, n := range []int{1000000001, 1<<32 - 1, 1 << 32, 1<<35 - 1, 1 << 35} {
			wrong = append(wrong, frameOf(1, fine[:place].text()+(figures{n}).text()+fine[place+1:].text()))
		}
	}
	for size := range fine.text() {
		wrong = append(wrong, frameOf(1, fine.text()[:size]))
	}
	return wrong
}

// In the place of a turn's frame; what is behind it would be right in its place.
func TestFramesThatAreNotTheNextTurn(t *testing.T) {
	p := somePieces(t)
	for number := range 4 {
		fine := turnOf(number, commands{{Unit: 3, What: api.Move, X: 300}}, commands{{}})
		wrong := append(wrongTurns(number, fine), frameOf(2, p.games[number]), frameOf(1, p.games[number]))
		wrong = append(wrong, p.frames[:number+1]...)
		wrong = append(wrong, p.frames[number+2:]...)
		for _, f := range wrong {
			p.finds(t, p.log(number+1)+f, number)
			p.finds(t, p.log(number+1)+f+p.frames[number+1]+turnFrame(number+1, nil, nil), number)
		}
		log := p.log(number+1) + frameOf(1, fine.text())
		if r := opened(t, logFile(log)); r.Game().Look().Turn != number+1 || logOf(t, r) != log {
			t.Errorf("the test is wrong: turn %d", r.Game().Look().Turn)
		}
	}
}

// The greatest number is a right one in a command that stands in a log.
func TestTheGreatestNumberInALog(t *testing.T) {
	p := somePieces(t)
	const n = 1000000000
	log := p.log(1) + turnFrame(0, commands{{Unit: n, What: n, X: n, Y: n, Target: n}, {Unit: 1, What: api.Build, X: api.Worker, Y: n, Target: n}}, nil)
	r := opened(t, logFile(log))
	if logOf(t, r) != log || len(r.Game().People()) != 3 {
		t.Errorf("P9: %q, %+v", r.Files(), r.Game().People())
	}
}

// A frame's length is one more number: with a right check behind it, it may still be wrong.
func TestLengthsOfFrames(t *testing.T) {
	p := somePieces(t)
	content, state := turnOf(0, nil, nil).text(), p.games[0]
	if framed(1, "\x03", content) != frameOf(1, content) || framed(2, "\xac\x01", state) != p.frames[0] {
		t.Fatal("the test is wrong")
	}
	for _, size := range []string{"\x83\x00", "\x83\x80\x00", "\x83\x80\x80\x80\x80\x00", "\x02", "\x04", "\x07", "\x00", "", "\x80", "\xff\xff\xff\xff\x7f", "\x80\x94\xeb\xdc\x03"} {
		p.finds(t, p.frames[0]+framed(1, size, content)+p.frames[1], 0)
	}
	for _, size := range []string{"\xac\x81\x00", "\xac\x81\x80\x00", "\xab\x01", "\xad\x01", "\xac", "\x00", "\xff\xff\xff\xff\x7f"} {
		notOpened(t, logFile(framed(2, size, state)+p.frames[1]))
	}
}

func TestLogsThatBeginWrong(t *testing.T) {
	p := somePieces(t)
	rest := p.log(6)[len(p.frames[0]):]
	for _, text := range []string{
		"", "K", "log", rest, " " + p.log(6), "\x00" + p.log(6), p.frames[0][1:], p.frames[0][:len(p.frames[0])-1],
		p.games[0], frameOf(1, p.games[0]), frameOf(0, p.games[0]), frameOf(3, p.games[0]), frameOf(255, p.games[0]),
		frameOf(2, ""), frameOf(2, p.games[0]+"\x00"), frameOf(2, p.games[0][:len(p.games[0])-1]), frameOf(2, mapOf("A..........B")),
		frameOf(2, new(skirmish.Game).Tell()), checked("k\x02\xac\x01" + p.games[0]), checked("\xac\x01" + p.games[0]), strings.ToLower(p.frames[0][:1]) + p.frames[0][1:],
		frameOf(2, p.games[0]+strings.Repeat("\x00", 40000)), strings.Repeat("K", 10000000), strings.Repeat("K\x02", 5000000), "K\x02" + strings.Repeat("\xff", 10000000), strings.Repeat("\x00", 10000000),
	} {
		notOpened(t, logFile(text))
		notOpened(t, logFile(text+rest))
	}
	rnd := rand.New(rand.NewPCG(53, 59))
	for range 300 {
		f := randomState(rnd)
		if f.mayBe() {
			opened(t, logFile(frameOf(2, f.text())))
		} else {
			notOpened(t, logFile(frameOf(2, f.text())))
		}
	}
}

func TestWrongFiles(t *testing.T) {
	log := somePieces(t).log(6)
	notOpened(t)
	notOpened(t, []api.File{}...)
	for _, name := range []string{"", "Log", "LOG", "log ", " log", "log\x00", "./log", "log.1", "new", "lo", "logs"} {
		notOpened(t, api.File{Name: name, Data: log})
		opened(t, api.File{Name: name, Data: log}, logFile(log))
	}
	notOpened(t, logFile(log), logFile(log))
	notOpened(t, logFile(log), logFile(""))
	notOpened(t, logFile(log), api.File{Name: "a"}, api.File{Name: "b"}, api.File{Name: "a", Data: "x"})
	notOpened(t, api.File{}, logFile(log), api.File{})
	notOpened(t, api.File{Name: "a"}, api.File{Name: "a"})
}

// Other files are neither looked at nor lost, whether or not they are called as a log that is begun anew.
func TestOtherFiles(t *testing.T) {
	p := somePieces(t)
	var names []string
	for _, s := range recorded(t, "A..........B").Steps() {
		if s.Name != "log" {
			names = append(names, s.Name)
		}
	}
	others := []api.File{{Name: "", Data: "empty"}, {Name: "new", Data: "half"}, {Name: "x", Data: p.log(2)}, {Name: "\xff\x00", Data: "K\x02"}}
	for _, name := range slices.Compact(names) {
		others = append(others, api.File{Name: name, Data: "half"})
	}
	for _, rest := range []string{"", "K", p.frames[1]} {
		given := append([]api.File{logFile(p.log(6) + rest)}, others...)
		r := opened(t, given...)
		r.Fold()
		playedOn(t, r, nil, nil)
		r.Fold()
		want := append([]api.File{logFile(frameOf(2, r.Game().Tell()))}, others...)
		slices.SortFunc(want, func(a, b api.File) int { return strings.Compare(a.Name, b.Name) })
		if got := r.Files(); !slices.Equal(got, want) {
			t.Errorf("P7: the files are %q, want %q", got, want)
		}
		if left := diskOf(given).do(t, r.Steps()...).files(); !slices.Equal(left, want) {
			t.Errorf("P7: the steps lead to %q, want %q", left, want)
		}
	}
}

// P1: many files, long names, long logs.
func TestManyFiles(t *testing.T) {
	p := somePieces(t)
	files := []api.File{logFile(p.log(6) + "K"), {Name: strings.Repeat("log", 1000000)}}
	for i := range 100000 {
		files = append(files, api.File{Name: "log." + strconv.Itoa(i)})
	}
	r := opened(t, files...)
	if l := r.Files(); len(l) != len(files) || l[0] != logFile(frameOf(2, p.games[5])) || !slices.IsSortedFunc(l, func(a, b api.File) int { return strings.Compare(a.Name, b.Name) }) {
		t.Errorf("P7: %d files", len(l))
	}
	notOpened(t, append(files, files[70000])...)
}

func TestLongLogs(t *testing.T) {
	p := somePieces(t)
	var b strings.Builder
	b.WriteString(p.log(6))
	for turn := 5; turn < 20000; turn++ {
		b.WriteString(turnFrame(turn, nil, nil))
	}
	r := opened(t, logFile(b.String()))
	if n := r.Sync(); n != 20000 || logOf(t, r) != b.String() {
		t.Errorf("P9: %d turns", n)
	}
	r = opened(t, logFile(p.log(6)+strings.Repeat("K", 10000000)))
	if n := r.Sync(); n != 5 || logOf(t, r) != frameOf(2, p.games[5]) {
		t.Errorf("P9: %d turns", n)
	}
}

// The last turn: what is behind it is not one, even if its number were the next.
func TestOpenAtTheLastTurn(t *testing.T) {
	log := atTurnFile(999999998).Data
	last := turnFrame(999999998, nil, nil) + turnFrame(999999999, nil, nil)
	whole := opened(t, logFile(log+last))
	if n := whole.Sync(); n != 1000000000 || logOf(t, whole) != log+last {
		t.Errorf("P9: at turn %d the log is %q", n, logOf(t, whole))
	}
	game := whole.Game().Tell()
	for _, begin := range []string{log + last, frameOf(2, game)} {
		for _, more := range []string{turnFrame(1000000000, nil, nil), turnFrame(1000000000, commands{{Unit: 7}}, nil), turnFrame(999999999, nil, nil), turnFrame(1000000001, nil, nil), turnFrame(0, nil, nil)} {
			r := opened(t, logFile(begin+more))
			if n := r.Sync(); n != 1000000000 || r.Game().Tell() != game || logOf(t, r) != frameOf(2, game) {
				t.Errorf("P9: behind the last turn: %d turns, the log is %q", n, logOf(t, r))
			}
			if l, e := r.Play(nil, nil); l != nil || e != api.ErrOver {
				t.Errorf("P6: behind the last turn: Play = %v, %d", l, e)
			}
		}
	}
}

// P2: the files that are handed in are not changed and not kept.
func TestFilesThatComeIn(t *testing.T) {
	p := somePieces(t)
	for _, rest := range []string{"", "K"} {
		given := []api.File{{Name: "z", Data: "other"}, logFile(p.log(6) + rest), {Name: "a"}}
		kept := slices.Clone(given)
		r := opened(t, given...)
		if !slices.Equal(given, kept) {
			t.Errorf("P2: the files are changed: %q, want %q", given, kept)
		}
		twin := opened(t, kept...)
		scribble(given, api.File{Name: "log", Data: "turned"})
		for range 3 {
			tellsAll(t, r, toldBy(twin))
			r.Play(nil, nil)
			twin.Play(nil, nil)
			tellsAll(t, r, toldBy(twin))
			r.Fold()
			twin.Fold()
		}
		wrong := []api.File{logFile(p.log(6)), logFile(p.log(6))}
		notOpened(t, wrong...)
		if wrong[0] != wrong[1] || wrong[0] != logFile(p.log(6)) {
			t.Errorf("P2: the files are changed: %q", wrong)
		}
	}
}

// P9: a record that was opened goes on as the first one does, in its game and in its log.
func TestOpenedRecordsGoOn(t *testing.T) {
	rnd := rand.New(rand.NewPCG(61, 67))
	for range 12 {
		r, e := skirmish.Begin(randomMap(rnd))
		if e != api.OK {
			t.Fatalf("P6: Begin = %d", e)
		}
		var twins []*skirmish.Record
		for turn := range 60 {
			if turn%10 == 0 {
				twins = append(twins, opened(t, r.Files()...))
			}
			if rnd.IntN(20) == 0 {
				r.Fold()
				for _, y := range twins {
					y.Fold()
				}
			}
			first, second := randomCommands(rnd, r.Game(), 4), randomCommands(rnd, r.Game(), 4)
			want := playedOn(t, r, first, second)
			for _, y := range twins {
				l := playedOn(t, y, first, second)
				if !slices.Equal(l[0], want[0]) || !slices.Equal(l[1], want[1]) || y.Game().Tell() != r.Game().Tell() || !slices.Equal(y.Files(), r.Files()) {
					t.Fatalf("P9: turn %d: refused %v, want %v; the files are %q, want %q", turn, l, want, y.Files(), r.Files())
				}
			}
		}
	}
}
