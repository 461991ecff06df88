package content

import (
	"skirmish/api"
	"skirmish/number"
)

const leastCommand = 5 // bytes: it has five numbers

// Turn is what both players said, and how many turns were ahead of it.
type Turn struct {
	Number        int
	First, Second []api.Command
}

// TellTurn writes a turn down; false, if that is too long for a frame.
func TellTurn(t Turn) (string, bool) {
	// lists of any length may come, so they are not written first and measured then
	if len(t.First)+len(t.Second) > api.MaxContent/leastCommand {
		return "", false
	}
	text := number.Append(nil, t.Number)
	text = appendCommands(text, t.First)
	text = appendCommands(text, t.Second)
	if len(text) > api.MaxContent {
		return "", false
	}
	return string(text), true
}

// appendCommands writes a player's commands behind a text.
func appendCommands(text []byte, list []api.Command) []byte {
	text = number.Append(text, len(list))
	for _, c := range list {
		c = writable(c)
		text = number.Append(text, c.Unit, c.What, c.X, c.Y, c.Target)
	}
	return text
}

// writable: a command with a number that cannot be written becomes one of noughts, which nobody takes.
func writable(c api.Command) api.Command {
	least := min(c.Unit, c.What, c.X, c.Y, c.Target)
	most := max(c.Unit, c.What, c.X, c.Y, c.Target)
	if least < 0 || most > api.MaxNumber {
		return api.Command{}
	}
	return c
}

// ReadTurn reads a turn; false, if the text tells none.
func ReadTurn(text string) (Turn, bool) {
	r := number.NewReader(text)
	t := Turn{Number: r.Next(), First: readCommands(r), Second: readCommands(r)}
	if !r.Done() {
		return Turn{}, false
	}
	return t, true
}

// readCommands reads a player's commands. The text may say that there are many more than it has, so that one stops where it is wrong.
func readCommands(r *number.Reader) []api.Command {
	var list []api.Command
	for many := r.Next(); many > 0 && r.Right(); many-- {
		list = append(list, api.Command{
			Unit:   r.Next(),
			What:   r.Next(),
			X:      r.Next(),
			Y:      r.Next(),
			Target: r.Next(),
		})
	}
	return list
}
