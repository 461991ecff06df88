package skirmish_test

import (
	"maps"
	"math/rand/v2"
	"slices"
	"testing"

	"skirmish/api"
	"skirmish/skirmish"
)

// held: a file on a disk, and how many of its bytes are safe.
type held struct {
	data string
	safe int
}

// disk: files by their names, with which steps are done.
type disk map[string]held

// diskOf: files that were there at first.
func diskOf(files []api.File) disk {
	d := disk{}
	for _, f := range files {
		d[f.Name] = held{f.Data, len(f.Data)}
	}
	return d
}

func (d disk) do(t *testing.T, steps ...api.Step) disk {
	t.Helper()
	for _, s := range steps {
		f, here := d[s.Name]
		plain := api.Step{What: s.What, Name: s.Name}
		switch s.What {
		case api.Append:
			plain.Data = s.Data
			d[s.Name] = held{f.data + s.Data, f.safe}
		case api.Sync:
			d[s.Name] = held{f.data, len(f.data)}
		case api.Rename:
			plain.To = s.To
			delete(d, s.Name)
			d[s.To] = f
		case api.Remove:
			delete(d, s.Name)
		default:
			t.Fatalf("P7: %+v is no step", s)
		}
		if s != plain || !here && s.What != api.Append {
			t.Fatalf("P7: %+v cannot be done with %q", s, d.files())
		}
	}
	return d
}

func (d disk) files() []api.File {
	var list []api.File
	for _, name := range slices.Sorted(maps.Keys(d)) {
		list = append(list, api.File{Name: name, Data: d[name].data})
	}
	return list
}

// cuts: the files that a cut may leave: of each in turn any number of bytes that are not safe is missing, while of the others none or all of these are.
func (d disk) cuts(try func(files []api.File)) {
	for _, whole := range []bool{true, false} {
		for name, f := range d {
			for size := f.safe; size <= len(f.data); size++ {
				left := disk{}
				for other, g := range d {
					left[other] = held{g.data[:g.safe], g.safe}
					if whole {
						left[other] = g
					}
				}
				left[name] = held{f.data[:size], f.safe}
				try(left.files())
			}
		}
	}
}

// mark: how many steps were done behind a call, and how many turns were safe and played then.
type mark struct {
	steps, safe, played int
}

// story: a record from when it was there, call by call.
type story struct {
	base  []api.File
	r     *skirmish.Record
	marks []mark
	turns map[int][2]commands
	told  map[int]string
}

// tell begins a story with a record, all of which is safe.
func tell(base []api.File, r *skirmish.Record) *story {
	s := &story{base: base, r: r, turns: map[int][2]commands{}, told: map[int]string{}}
	s.note(r.Game().Look().Turn)
	return s
}

func (s *story) note(safe int) {
	turn := s.r.Game().Look().Turn
	s.told[turn] = s.r.Game().Tell()
	s.marks = append(s.marks, mark{len(s.r.Steps()), safe, turn})
}

func (s *story) last() mark {
	return s.marks[len(s.marks)-1]
}

func (s *story) play(t *testing.T, first, second commands) {
	t.Helper()
	s.turns[s.last().played] = [2]commands{first, second}
	playedOn(t, s.r, first, second)
	s.note(s.last().safe)
}

// random: some calls, mostly turns.
func (s *story) random(t *testing.T, rnd *rand.Rand, calls int) {
	t.Helper()
	for range calls {
		switch rnd.IntN(8) {
		case 0:
			s.note(s.r.Sync())
		case 1:
			s.r.Fold()
			s.note(s.last().played)
		default:
			s.play(t, randomCommands(rnd, s.r.Game(), 3), randomCommands(rnd, s.r.Game(), 2))
		}
	}
}

// bounds: behind so many steps, how many turns a cut must leave and how many it may.
func (s *story) bounds(steps int) (least, most int) {
	for _, m := range s.marks {
		if m.steps <= steps {
			least = m.safe
		}
	}
	at := slices.IndexFunc(s.marks, func(m mark) bool { return m.steps >= steps })
	return least, s.marks[at].played
}

// cut the story at a place of its steps, in all ways: each time there is a record, with the turns that were safe; it goes on as the first one did.
func (s *story) cut(t *testing.T, steps int) {
	t.Helper()
	least, most := s.bounds(steps)
	seen := map[int]bool{}
	diskOf(s.base).do(t, s.r.Steps()[:steps]...).cuts(func(files []api.File) {
		y := opened(t, files...)
		k := y.Game().Look().Turn
		if k < least || k > most || y.Game().Tell() != s.told[k] {
			t.Fatalf("P8: cut at %d of the steps %+v, the files %q: turn %d, want %d to %d", steps, s.r.Steps(), files, k, least, most)
		}
		if left := diskOf(files).do(t, y.Steps()...).files(); !slices.Equal(left, y.Files()) {
			t.Fatalf("P7: %+v leads from %q to %q, but the files are %q", y.Steps(), files, left, y.Files())
		}
		if !seen[k] {
			seen[k] = true
			s.goesOn(t, y)
		}
	})
	if !seen[most] {
		t.Fatalf("P8: cut at %d of the steps, with no byte missing: %d turns are not found", steps, most)
	}
}

// goesOn: another record plays what comes then, and stands as this one did.
func (s *story) goesOn(t *testing.T, y *skirmish.Record) {
	t.Helper()
	for k := y.Game().Look().Turn; k < s.last().played; k++ {
		playedOn(t, y, s.turns[k][0], s.turns[k][1])
		if y.Game().Tell() != s.told[k+1] {
			t.Fatalf("P9: behind turn %d an opened record tells %q, want %q", k, y.Game().Tell(), s.told[k+1])
		}
	}
	if n := y.Sync(); n != s.last().played {
		t.Fatalf("P6: Sync() = %d, want %d", n, s.last().played)
	}
	z := opened(t, y.Files()...)
	if z.Game().Tell() != y.Game().Tell() || !slices.Equal(z.Files(), y.Files()) {
		t.Fatalf("P9: opened again: %q and %q, want %q and %q", z.Game().Tell(), z.Files(), y.Game().Tell(), y.Files())
	}
}

func (s *story) cutAnywhere(t *testing.T) {
	t.Helper()
	for steps := s.marks[0].steps; steps <= s.last().steps; steps++ {
		s.cut(t, steps)
	}
}

// P8: records that were begun, and records that were opened behind a cut, with what was left of it.
func TestCuts(t *testing.T) {
	rnd := rand.New(rand.NewPCG(43, 47))
	for range 6 {
		r, e := skirmish.Begin(randomMap(rnd))
		if e != api.OK {
			t.Fatalf("P6: Begin = %d", e)
		}
		s := tell(nil, r)
		s.random(t, rnd, 16)
		s.cutAnywhere(t)
		d := diskOf(nil).do(t, s.r.Steps()[:s.marks[0].steps+rnd.IntN(s.last().steps-s.marks[0].steps+1)]...)
		var left [][]api.File
		d.cuts(func(files []api.File) { left = append(left, files) })
		base := left[rnd.IntN(len(left))]
		again := tell(base, opened(t, base...))
		again.random(t, rnd, 10)
		again.cutAnywhere(t)
	}
}

// P8: turns with no commands and with many, all bytes of which may be missing.
func TestCutsOfLongTurns(t *testing.T) {
	s := tell(nil, recorded(t, "A..9.......B"))
	s.play(t, nil, nil)
	s.play(t, many(60, 400), many(3, 60))
	s.note(s.r.Sync())
	s.play(t, raise(1, api.Worker), many(200, 1000))
	s.r.Fold()
	s.note(3)
	s.play(t, commands{{Unit: 3, What: api.Mine, X: 3}, {Unit: -1}}, nil)
	s.play(t, nil, nil)
	s.cutAnywhere(t)
}

// P8 speaks of what is behind Begin; but a cut in Begin's own steps leaves nothing that is taken for another record.
func TestCutsOfBegin(t *testing.T) {
	r := recorded(t, "A..9.......B")
	game, steps := r.Game().Tell(), r.Steps()
	for n := range len(steps) + 1 {
		diskOf(nil).do(t, steps[:n]...).cuts(func(files []api.File) {
			y, e := skirmish.Open(files)
			if e == api.OK && y.Game().Tell() != game || e != api.OK && (y != nil || e != api.ErrForm || n == len(steps)) {
				t.Errorf("P8: cut at %d of Begin's steps: Open(%q) = %v, %d", n, files, y, e)
			}
		})
	}
	if d := diskOf(nil).do(t, steps...); d["log"].safe != len(d["log"].data) || !slices.Equal(d.files(), r.Files()) {
		t.Errorf("P6: behind Begin: %+v", d)
	}
}

// P8 and P9: the steps by which Open throws away what is wrong.
func TestCutsOfOpen(t *testing.T) {
	r, first, second := busy(t)
	log := logOf(t, r)
	playedOn(t, r, first, second)
	game := opened(t, api.File{Name: "log", Data: log}).Game().Tell()
	for _, rest := range []string{"K", "other", logOf(t, r)[len(log) : len(logOf(t, r))-1], turnFrame(7, nil, nil), frameOf(2, game)} {
		for _, others := range [][]api.File{nil, {{Name: "log.1", Data: "half"}, {Name: "log.2"}, {Name: "new", Data: log}}} {
			base := append([]api.File{{Name: "log", Data: log + rest}}, others...)
			y := opened(t, base...)
			for n := range len(y.Steps()) + 1 {
				diskOf(base).do(t, y.Steps()[:n]...).cuts(func(files []api.File) {
					if z := opened(t, files...); z.Game().Tell() != game {
						t.Fatalf("P8: cut at %d of Open's steps: %q, want %q", n, z.Game().Tell(), game)
					}
				})
			}
			s := tell(base, y)
			s.play(t, first, second)
			s.note(s.r.Sync())
			s.play(t, second, first)
			s.cutAnywhere(t)
		}
	}
}

// P6 and P9: behind Begin, Sync, Fold and Open all is safe, even if turns that were not safe are in the files that Open is given.
func TestAllIsSafe(t *testing.T) {
	r, first, second := busy(t)
	steps := r.Steps()
	check := func(what string, turns int) {
		t.Helper()
		for _, f := range diskOf(nil).do(t, steps...) {
			if f.safe != len(f.data) {
				t.Errorf("P8: behind %s %d of %d bytes are safe", what, f.safe, len(f.data))
			}
		}
		if k := r.Game().Look().Turn; k != turns {
			t.Errorf("P8: behind %s: turn %d, want %d", what, k, turns)
		}
	}
	r = opened(t, r.Files()...)
	steps = append(steps, r.Steps()...)
	check("Open", 2)
	for turn := 3; turn < 12; turn += 2 {
		ahead := len(r.Steps())
		playedOn(t, r, first, second)
		r.Sync()
		steps = append(steps, r.Steps()[ahead:]...)
		check("Sync", turn)
		ahead = len(r.Steps())
		playedOn(t, r, second, first)
		r.Fold()
		steps = append(steps, r.Steps()[ahead:]...)
		check("Fold", turn+1)
	}
}

// P7: a turn is a step that puts its frame behind the log and leaves all else alone.
func TestStepsOfTurns(t *testing.T) {
	r, first, second := busy(t)
	for range 5 {
		ahead, log, turn := r.Steps(), logOf(t, r), r.Game().Look().Turn
		playedOn(t, r, first, second)
		want := append(ahead, api.Step{What: api.Append, Name: "log", Data: turnFrame(turn, written(first), written(second))})
		if got := r.Steps(); !slices.Equal(got, want) {
			t.Errorf("P7: %+v, want %+v", got, want)
		}
		if logOf(t, r) != log+want[len(want)-1].Data {
			t.Errorf("P7: the log is %q", logOf(t, r))
		}
	}
	ahead := r.Steps()
	r.Sync()
	if got := r.Steps(); !slices.Equal(got, append(ahead, api.Step{What: api.Sync, Name: "log"})) {
		t.Errorf("P7: behind Sync: %+v", got)
	}
}
