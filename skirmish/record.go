package skirmish

import (
	"skirmish/api"
	"skirmish/content"
	"skirmish/frame"
	"skirmish/rules"
	"skirmish/store"
)

const logName = "log"

// Record of a game.
type Record struct {
	now   rules.Game
	files store.Store
}

// Begin begins a record (P6).
func Begin(text string) (*Record, api.Errno) {
	now, right := rules.New(text)
	if !right {
		return nil, api.ErrMap
	}
	r := &Record{now: now}
	r.Fold()
	return r, api.OK
}

// Open finds one (P9).
func Open(files []api.File) (*Record, api.Errno) {
	kept, right := store.Of(files)
	if !right {
		return nil, api.ErrForm
	}
	now, whole, right := readLog(kept.Data(logName))
	if !right {
		return nil, api.ErrForm
	}
	r := &Record{now: now, files: kept}
	if whole {
		r.Sync() // nobody says whether the files that came were safe
	} else {
		r.Fold()
	}
	return r, api.OK
}

// there: a nil record is asked like one without files, since no call may panic.
func (r *Record) there() *Record {
	if r == nil {
		return &Record{}
	}
	return r
}

// Game tells the game (P6).
func (r *Record) Game() *Game {
	return &Game{now: r.there().now}
}

// Play plays a turn (P6).
func (r *Record) Play(first []api.Command, second []api.Command) ([][]int, api.Errno) {
	r = r.there()
	if r.now.Turn >= api.MaxNumber {
		return nil, api.ErrOver
	}
	text, fits := content.TellTurn(content.Turn{Number: r.now.Turn, First: first, Second: second})
	if !fits {
		return nil, api.ErrFull
	}
	next, refused, _ := playTurn(r.now, text) // not the lists that came: what was written is what will be read
	r.now = next
	r.files.Append(logName, frame.Tell(frame.Turn, text))
	return refused, api.OK
}

// Sync makes all turns safe (P6).
func (r *Record) Sync() int {
	r = r.there()
	r.files.Sync(logName)
	return r.now.Turn
}

// Fold makes the log a state alone (P6).
func (r *Record) Fold() {
	r = r.there()
	r.files.Replace(logName, frame.Tell(frame.State, content.TellState(r.now)))
}

// Files tells the files (P7).
func (r *Record) Files() []api.File {
	return r.there().files.Files()
}

// Steps tells what was done with them (P7).
func (r *Record) Steps() []api.Step {
	return r.there().files.Steps()
}

// readLog plays what a log says: the game, whether that was all the log has, and whether the log begins as one.
func readLog(text string) (now rules.Game, whole, right bool) {
	state, rest, right := frame.Cut(text, frame.State)
	if !right {
		return rules.Game{}, false, false
	}
	now, right = content.ReadState(state)
	if !right {
		return rules.Game{}, false, false
	}
	now, rest = playLog(now, rest)
	return now, rest == "", true
}

// playLog plays the turns of a log, up to the first that is no right one: the game, and what is left of the log.
func playLog(now rules.Game, text string) (rules.Game, string) {
	for {
		turn, rest, right := frame.Cut(text, frame.Turn)
		if !right {
			return now, text
		}
		next, _, right := playTurn(now, turn)
		if !right {
			return now, text
		}
		now, text = next, rest
	}
}

// playTurn plays the turn that a text tells; false, if that is not the next one.
func playTurn(now rules.Game, text string) (next rules.Game, refused [][]int, right bool) {
	turn, right := content.ReadTurn(text)
	if !right || turn.Number != now.Turn || now.Turn >= api.MaxNumber {
		return now, nil, false
	}
	next, refused = rules.Play(now, turn.First, turn.Second)
	return next, refused, true
}
