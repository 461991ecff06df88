// Package frame: the pieces of a log, each with a check by which one finds out whether it is whole.
package frame

import (
	"strings"

	"skirmish/api"
	"skirmish/number"
)

// Sorts of frames.
const (
	Turn  = 1
	State = 2
)

// Tell puts a content into a frame.
func Tell(sort byte, content string) string {
	text := number.Append([]byte(head(sort)), len(content))
	text = append(text, content...)
	return string(text) + check(string(text))
}

// Cut takes a frame of this sort off the front of a text: its content, and what is behind the frame; false, if there is no right one.
func Cut(text string, sort byte) (content, rest string, right bool) {
	behind, begins := strings.CutPrefix(text, head(sort))
	if !begins {
		return "", "", false
	}
	r := number.NewReader(behind)
	size := r.Next()
	behind = r.Rest()
	if !r.Right() || size > api.MaxContent || size > len(behind) {
		return "", "", false
	}
	content, behind = behind[:size], behind[size:]
	rest, right = strings.CutPrefix(behind, check(text[:len(text)-len(behind)]))
	if !right {
		return "", "", false
	}
	return content, rest, true
}

// head: the bytes that a frame of this sort begins with.
func head(sort byte) string {
	return string([]byte{'K', sort})
}
