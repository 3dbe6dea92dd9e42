package files

import (
	"clevis/api"
	"strings"
)

const (
	root   = "/"
	parent = ".."
)

// Clean returns an absolute path without ignored parts and without `..`. It asks no store, so links are not considered.
func Clean(path string) (string, api.Errno) {
	parts, e := absoluteParts(path)
	if e != api.OK {
		return "", e
	}
	at := root
	for _, part := range parts {
		if part == parent {
			at = above(at)
		} else {
			at = below(at, part)
		}
	}
	return at, api.OK
}

// Within returns the cleaned path without its last part.
func Within(path string) (string, api.Errno) {
	at, e := Clean(path)
	if e != api.OK {
		return "", e
	}
	return above(at), api.OK
}

// above returns a clean path without its last part; above / there is nothing but / itself.
func above(at string) string {
	return at[:max(strings.LastIndexByte(at, '/'), len(root))]
}

// below returns a clean path with one more part.
func below(at, part string) string {
	if at == root {
		return root + part
	}
	return at + "/" + part
}

// lastOf returns the last part of a clean path.
func lastOf(at string) string {
	return at[strings.LastIndexByte(at, '/')+1:]
}

func isAbsolute(path string) bool {
	return strings.HasPrefix(path, root)
}

func absoluteParts(path string) ([]string, api.Errno) {
	parts, isPath := partsOf(path)
	if !isPath || !isAbsolute(path) {
		return nil, api.ErrPath
	}
	return parts, api.OK
}

// partsOf returns the parts of a path that are not ignored, and whether it is a path at all.
func partsOf(path string) ([]string, bool) {
	if len(path) > api.MaxPath {
		return nil, false
	}
	var parts []string
	for _, part := range strings.Split(path, "/") {
		if !isPart(part) {
			return nil, false
		}
		if part != "" && part != "." {
			parts = append(parts, part)
		}
	}
	return parts, true
}

func isPart(part string) bool {
	if len(part) > api.MaxPart {
		return false
	}
	for i := range len(part) {
		if !isPartByte(part[i]) {
			return false
		}
	}
	return true
}

func isPartByte(c byte) bool {
	switch {
	case 'a' <= c && c <= 'z', 'A' <= c && c <= 'Z', '0' <= c && c <= '9':
		return true
	}
	return c == '.' || c == '-' || c == '_'
}
