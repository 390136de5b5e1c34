package path

import (
	"errors"
	"slices"
	"testing"

	"conduit/api"
	"conduit/octet"
)

// P11.1, P11.2: paths put right; what is right stays.
func TestClean(t *testing.T) {
	for path, want := range map[string]string{
		"/": "/", "//": "/", "/.": "/", "/./": "/", "/a": "/a", "/a/": "/a/", "//a//b": "/a/b", "/a/./b": "/a/b", "/a/.": "/a/", "/a/b/..": "/a/", "/a/b/../": "/a/", "/a/..": "/", "/a/../": "/",
		"/a/../b/": "/b/", "/a/b/../../c": "/c", "/...": "/...", "/.a": "/.a", "/..a/": "/..a/", "/%41%20": "/A ", "/%2e/a": "/a", "/a/%2E%2e/b": "/b", "/a/%2e": "/a/", "/a/b/.%2e": "/a/",
		"/%252e": "/%2e", "/a?b": "/a?b", "/\xff": "/\xff", "/%ff": "/\xff", "/a/ ": "/a/ ", "/\x80~": "/\x80~",
	} {
		got, err := Clean(path)
		if got != want || err != nil {
			t.Errorf("P11.1: Clean %q: %q, %v", path, got, err)
		}
		if again, err := Clean(octet.Escape(got)); again != got || err != nil {
			t.Errorf("P11.2: %q is put right once more: %q, %v", got, again, err)
		}
	}
}

// P11.1: paths that can't be put right.
func TestCleanErrors(t *testing.T) {
	for _, path := range []string{"", "a", "*", "a/b", "%2f", "/%", "/a%2", "/%00", "/%zz/..", "/a%2fb", "/%2F", "/\x1f", "/%1f", "/%0a", "/%7f", "/\x7f", "/..", "/a/../..", "/a/../../b", "/%2e%2e", "/./.."} {
		if got, err := Clean(path); got != "" || !errors.Is(err, api.ErrForm) {
			t.Errorf("P11.1: Clean %q: %q, %v", path, got, err)
		}
	}
}

// P11.1: segments.
func TestSegments(t *testing.T) {
	for path, want := range map[string][]string{"": nil, "/": nil, "//": nil, "a": {"a"}, "/a//b/": {"a", "b"}, "/./..": {".", ".."}} {
		if got := Segments(path); !slices.Equal(got, want) {
			t.Errorf("P11.1: Segments %q: %q", path, got)
		}
	}
}

// P11.1: whole segments at the front.
func TestBegins(t *testing.T) {
	for i, c := range []struct {
		path, prefix string
		want         bool
	}{
		{"/a/b", "/a", true}, {"/a/b", "/a/", true}, {"/a", "/a/", true}, {"/ab", "/a", false}, {"/a", "/a/b", false}, {"/a/b", "/b", false}, {"/a", "/", true}, {"", "", true}, {"", "/a", false}, {"/A", "/a", false}, {"/a/b/c", "a/b", true},
	} {
		if Begins(c.path, c.prefix) != c.want {
			t.Errorf("P11.1: row %d", i)
		}
	}
}
