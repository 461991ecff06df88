// Package store: files that are held by their names, and the steps that were done with them.
package store

import (
	"maps"
	"slices"
	"strconv"
	"strings"

	"skirmish/api"
)

// Store of files. One without a value of its own has none.
type Store struct {
	files map[string]file
	steps []api.Step
}

// file: bytes, not a text, so that to append to a long one costs no more than to a short one.
type file struct {
	data []byte
}

// Of holds some files; false, if two have one name.
func Of(list []api.File) (Store, bool) {
	var s Store
	for _, f := range list {
		if s.has(f.Name) {
			return Store{}, false
		}
		s.put(strings.Clone(f.Name), file{data: []byte(f.Data)})
	}
	return s, true
}

func (s *Store) has(name string) bool {
	_, here := s.files[name]
	return here
}

func (s *Store) put(name string, f file) {
	if s.files == nil {
		s.files = map[string]file{}
	}
	s.files[name] = f
}

// Data tells the bytes of a file: none, if it is not there.
func (s *Store) Data(name string) string {
	return string(s.files[name].data)
}

// Append puts bytes behind a file, which is new if it is not there.
func (s *Store) Append(name, data string) {
	f := s.files[name]
	f.data = append(f.data, data...)
	s.put(name, f)
	s.steps = append(s.steps, api.Step{What: api.Append, Name: name, Data: data})
}

// Sync makes all bytes of a file safe.
func (s *Store) Sync(name string) {
	s.steps = append(s.steps, api.Step{What: api.Sync, Name: name})
}

// Replace writes a file anew. A cut may come at any time: so it is written under another name, and takes the place of what was there when all of it is safe.
func (s *Store) Replace(name, data string) {
	other := s.unused(name)
	s.Append(other, data)
	s.Sync(other)
	s.rename(other, name)
}

// rename: what had the other name is no more.
func (s *Store) rename(name, to string) {
	s.put(to, s.files[name])
	delete(s.files, name)
	s.steps = append(s.steps, api.Step{What: api.Rename, Name: name, To: to})
}

// unused: a name that no file has. One that a cut left half stays as it is, like all files of others: nobody knows whose it is.
func (s *Store) unused(name string) string {
	for n := 1; ; n++ {
		other := name + "." + strconv.Itoa(n)
		if !s.has(other) {
			return other
		}
	}
}

// Files tells all files, by their names.
func (s *Store) Files() []api.File {
	var list []api.File
	for _, name := range slices.Sorted(maps.Keys(s.files)) {
		list = append(list, api.File{Name: name, Data: s.Data(name)})
	}
	return list
}

// Steps tells what was done with the files, in order.
func (s *Store) Steps() []api.Step {
	return slices.Clone(s.steps)
}
