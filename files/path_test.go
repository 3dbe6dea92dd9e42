package files_test

import (
	"strings"
	"testing"

	"clevis/api"
	"clevis/files"
)

// wrongPaths returns strings that are no absolute paths: most are no paths at all, the last ones are not absolute.
func wrongPaths() []string {
	ps := []string{
		"/" + strings.Repeat("a", 65), "/a/" + strings.Repeat(".", 65) + "/b", "/" + strings.Repeat("a", 65) + "/..",
		"/" + strings.Repeat("/", 200), strings.Repeat("/a", 100) + "/", "/" + strings.Repeat("./", 100),
		"/a b", "/é", "/a\x00", "/a\n", "/\xff", "/a\\b", "/a/*/..", "/a:b", "/~", "/$", "/a+b", "/@", "/[", "/`", "/{", "/,",
		" /a", "/a ", "\x00",
	}
	return append(ps, relativePaths()...)
}

func relativePaths() []string {
	return []string{"", "a", ".", "..", "./", "../", "a/b", "a/", "./a", "../a", "-", "_"}
}

func wantClean(t *testing.T, path, clean, within string) {
	t.Helper()
	if got, e := files.Clean(path); got != clean || e != api.OK {
		t.Errorf("Clean(%q): %q, %d; want %q", path, got, e, clean)
	}
	if got, e := files.Within(path); got != within || e != api.OK {
		t.Errorf("Within(%q): %q, %d; want %q", path, got, e, within)
	}
}

// P3.1: ignored parts, `..`, and `..` at /.
func TestClean(t *testing.T) {
	wantClean(t, "/", "/", "/")
	wantClean(t, "//", "/", "/")
	wantClean(t, "/.", "/", "/")
	wantClean(t, "/./", "/", "/")
	wantClean(t, "/..", "/", "/")
	wantClean(t, "/../..", "/", "/")
	wantClean(t, "/../a", "/a", "/")
	wantClean(t, "/a", "/a", "/")
	wantClean(t, "/a/", "/a", "/")
	wantClean(t, "/a/.", "/a", "/")
	wantClean(t, "/a/b", "/a/b", "/a")
	wantClean(t, "//a///b//", "/a/b", "/a")
	wantClean(t, "/a/b/c", "/a/b/c", "/a/b")
	wantClean(t, "/a//./b/../c", "/a/c", "/a")
	wantClean(t, "/a/..", "/", "/")
	wantClean(t, "/a/../", "/", "/")
	wantClean(t, "/a/b/..", "/a", "/")
	wantClean(t, "/a/b/../..", "/", "/")
	wantClean(t, "/a/b/../../..", "/", "/")
	wantClean(t, "/a/b/../../../c/d", "/c/d", "/c")
	wantClean(t, "/a/./../b", "/b", "/")
}

// P3.1: parts of dots that are neither `.` nor `..` are parts as others.
func TestCleanDots(t *testing.T) {
	wantClean(t, "/...", "/...", "/")
	wantClean(t, "/a/....", "/a/....", "/a")
	wantClean(t, "/.a/..b/c./d..", "/.a/..b/c./d..", "/.a/..b/c.")
}

// Words: what bytes a part may have.
func TestPathBytes(t *testing.T) {
	wantClean(t, "/azAZ09.-_/b", "/azAZ09.-_/b", "/azAZ09.-_")
	for c := range 256 {
		path := "/" + string([]byte{byte(c)}) + "x"
		want := api.ErrPath
		if strings.ContainsRune("/.-_0123456789abcdefghijklmnopqrstuvwxyzABCDEFGHIJKLMNOPQRSTUVWXYZ", rune(c)) {
			want = api.OK
		}
		if _, e := files.Clean(path); e != want {
			t.Errorf("Clean(%q): %d, want %d", path, e, want)
		}
	}
}

// Words: parts of 64 and 65 bytes, paths of 200 and 201 bytes, ignored parts counted.
func TestPathLimits(t *testing.T) {
	part := strings.Repeat("p", 64)
	wantClean(t, "/"+part, "/"+part, "/")
	wantClean(t, "/a/"+part+"/"+part, "/a/"+part+"/"+part, "/a/"+part)
	wantClean(t, "/"+strings.Repeat(".", 64), "/"+strings.Repeat(".", 64), "/")

	long := strings.Repeat("/abc", 50)
	wantClean(t, long, long, long[:196])
	wantClean(t, strings.Repeat("/", 200), "/", "/")
	wantClean(t, strings.Repeat("/.", 100), "/", "/")
	wantClean(t, strings.Repeat("/", 199)+"a", "/a", "/")
}

// P3.1: what is not an absolute path.
func TestCleanWrong(t *testing.T) {
	for _, path := range append(wrongPaths(), strings.Repeat("/abc", 50)+"/", strings.Repeat("/", 201), strings.Repeat("/abc/..", 40)) {
		if got, e := files.Clean(path); got != "" || e != api.ErrPath {
			t.Errorf("Clean(%q): %q, %d", path, got, e)
		}
		if got, e := files.Within(path); got != "" || e != api.ErrPath {
			t.Errorf("Within(%q): %q, %d", path, got, e)
		}
	}
}
