package symver

import (
	"clevis/api"
	"strings"
)

// What stands between a name and a version: the second one tells the definitions that are found without their version, too.
const (
	mark       = "@"
	doubleMark = mark + mark
)

// Parse returns the symbol that the text is that of: a definition, or a reference.
func Parse(text string, defined bool) (api.Symbol, api.Errno) {
	name, rest, isMarked := strings.Cut(text, mark)
	version, isDouble := strings.CutPrefix(rest, mark)
	if !Name(name) || isMarked && !Name(version) || isDouble && !defined {
		return api.Symbol{}, api.ErrName
	}
	isOld := defined && isMarked && !isDouble
	return api.Symbol{Name: name, Version: version, Old: isOld, Defined: defined}, api.OK
}

// Print returns the text of s, whether s is valid or not.
func Print(s api.Symbol) string {
	switch {
	case !hasVersion(s):
		return s.Name
	case s.Defined && !s.Old:
		return s.Name + doubleMark + s.Version
	}
	return s.Name + mark + s.Version
}
