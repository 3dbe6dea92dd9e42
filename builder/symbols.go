package builder

import (
	"clevis/api"
	"slices"
)

// request is a name with which a line or a variable means a symbol. The version may be empty.
type request struct {
	name, version string
}

// symbols are those of the image so far, and the first one that each request denotes.
type symbols struct {
	syms    []api.Symbol
	denoted map[request]int
}

func noSymbols() symbols {
	return symbols{denoted: map[request]int{}}
}

// add puts s behind the others. None of the requests for it may denote one of them: the first one counts.
func (l *symbols) add(s api.Symbol) int {
	at := len(l.syms)
	l.syms = append(l.syms, s)
	for _, r := range requestsFor(s) {
		l.denoted[r] = at
	}
	return at
}

// place sets where the definition at an index is, and returns the address behind it.
func (l *symbols) place(index, at, size int) int {
	l.syms[index].Value, l.syms[index].Size = at, size
	return at + size
}

// clashes reports whether s and an earlier definition have a request in common. They do exactly if they have the same name and either the same version or both are not old.
func (l *symbols) clashes(s api.Symbol) bool {
	return slices.ContainsFunc(requestsFor(s), func(r request) bool {
		_, isDenoted := l.denoted[r]
		return isDenoted
	})
}

// requestsFor returns the requests that may denote s: only a definition that is not old can do without its version.
func requestsFor(s api.Symbol) []request {
	rs := []request{{s.Name, s.Version}}
	if s.Defined && !s.Old && s.Version != "" {
		rs = append(rs, request{name: s.Name})
	}
	return rs
}
