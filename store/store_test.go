package store

import (
	"slices"
	"testing"

	"skirmish/api"
)

func TestFilesByTheirNames(t *testing.T) {
	given := []api.File{{Name: "log", Data: "b"}, {Name: "", Data: "a"}, {Name: "x"}, {Name: "Log", Data: "c"}, {Name: "\xff", Data: "d"}}
	s, right := Of(given)
	if !right {
		t.Fatal("P9: all names are different")
	}
	want := []api.File{{Name: "", Data: "a"}, {Name: "Log", Data: "c"}, {Name: "log", Data: "b"}, {Name: "x"}, {Name: "\xff", Data: "d"}}
	if got := s.Files(); !slices.Equal(got, want) {
		t.Errorf("P7: %+v, want %+v", got, want)
	}
	if s.Data("log") != "b" || s.Data("none") != "" || len(s.Steps()) != 0 {
		t.Errorf("P7: %q, %q, %+v", s.Data("log"), s.Data("none"), s.Steps())
	}
}

func TestTwoOfOneName(t *testing.T) {
	for _, list := range [][]api.File{{{}, {}}, {{Name: "a"}, {Name: "b"}, {Name: "a"}}, {{Name: "a", Data: "x"}, {Name: "a", Data: "x"}}} {
		if s, right := Of(list); right || len(s.Files()) != 0 {
			t.Errorf("P9: %+v: %+v", list, s.Files())
		}
	}
	for _, list := range [][]api.File{nil, {}, {{}}, {{Name: "a"}, {Name: "A"}}} {
		if s, right := Of(list); !right || len(s.Files()) != len(list) {
			t.Errorf("P9: %+v: %+v", list, s.Files())
		}
	}
}

func TestSteps(t *testing.T) {
	var s Store
	s.Append("log", "one")
	s.Sync("log")
	s.Append("log", "two")
	s.Replace("log", "three")
	s.Append("log", "four")
	want := []api.Step{
		{What: api.Append, Name: "log", Data: "one"},
		{What: api.Sync, Name: "log"},
		{What: api.Append, Name: "log", Data: "two"},
		{What: api.Append, Name: "log.1", Data: "three"},
		{What: api.Sync, Name: "log.1"},
		{What: api.Rename, Name: "log.1", To: "log"},
		{What: api.Append, Name: "log", Data: "four"},
	}
	if got := s.Steps(); !slices.Equal(got, want) {
		t.Errorf("P7: %+v, want %+v", got, want)
	}
	if got := s.Files(); !slices.Equal(got, []api.File{{Name: "log", Data: "threefour"}}) {
		t.Errorf("P7: %+v", got)
	}
}

// Files that are there keep their bytes when one is written anew, whatever they are called.
func TestNamesThatAreTaken(t *testing.T) {
	s, _ := Of([]api.File{{Name: "log", Data: "old"}, {Name: "log.1", Data: "half"}, {Name: "log.2", Data: "other"}, {Name: "log.4"}})
	s.Replace("log", "new")
	s.Replace("log", "newer")
	want := []api.File{{Name: "log", Data: "newer"}, {Name: "log.1", Data: "half"}, {Name: "log.2", Data: "other"}, {Name: "log.4"}}
	if got := s.Files(); !slices.Equal(got, want) {
		t.Errorf("P7: %+v, want %+v", got, want)
	}
}

// P2: what comes out is nobody else's.
func TestListsAreApart(t *testing.T) {
	given := []api.File{{Name: "log", Data: "old"}}
	s, _ := Of(given)
	given[0] = api.File{Name: "x", Data: "y"}
	s.Append("log", "er")
	for range 3 {
		files, steps := s.Files(), s.Steps()
		if !slices.Equal(files, []api.File{{Name: "log", Data: "older"}}) || !slices.Equal(steps, []api.Step{{What: api.Append, Name: "log", Data: "er"}}) {
			t.Errorf("P2: %+v, %+v", files, steps)
		}
		clear(files[:cap(files)])
		clear(steps[:cap(steps)])
	}
}
