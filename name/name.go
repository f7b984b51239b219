// Package name is layer 1: which texts may be names: see shared/doc/01-name.md.
package name

import (
	"strings"
	"unicode/utf8"

	"gunwale/api"
)

// replacement is what a range over a string tells in place of bytes that are no rune's, as the bytes of that rune.
const replacement = string(utf8.RuneError)

// Runes tells how many runes s has, and true; 0, false, if it has bytes that are no rune's.
func Runes(s string) (int, bool) {
	n, ok, _ := scan(s)
	return n, ok
}

// Check tells whether s is a name.
func Check(s string) bool {
	n, ok, plain := scan(s)
	return ok && plain && n >= 1 && n <= api.MaxName && s != "." && s != ".."
}

// scan tells how many runes s has, whether it has runes at all, and whether a name may have each of them.
func scan(s string) (n int, ok, plain bool) {
	ok, plain = true, true
text:
	for i, r := range s {
		switch {
		case r == utf8.RuneError && !strings.HasPrefix(s[i:], replacement):
			n, ok, plain = 0, false, false
			break text
		case r < 32, r == '/', r == 127:
			plain = false
		}
		n++
	}
	return n, ok, plain
}

// Less tells whether a stands ahead of b. Bytes of UTF-8 stand in the order of their runes, and texts without runes
// are taken by their bytes, so that of two texts alike in that the bytes tell it; else the one with runes is ahead.
func Less(a, b string) bool {
	_, runesA := Runes(a)
	_, runesB := Runes(b)
	if runesA != runesB {
		return runesA
	}
	return a < b
}

// Split tells the names of the path p.
func Split(p string) ([]string, api.Errno) {
	rest, ok := strings.CutPrefix(p, "/")
	if !ok {
		return nil, api.ErrName
	}
	if rest == "" {
		return nil, api.OK
	}
	// One piece more than there may be is enough to see that there are too many.
	l := strings.SplitN(rest, "/", api.MaxDepth+1)
	if !allNames(l) {
		return nil, api.ErrName
	}
	for i, s := range l {
		l[i] = strings.Clone(s)
	}
	return l, api.OK
}

// Join tells the path of the names l.
func Join(l []string) (string, api.Errno) {
	if !allNames(l) {
		return "", api.ErrName
	}
	return "/" + strings.Join(l, "/"), api.OK
}

// allNames tells whether l has no more texts than a path has names, and all are names.
func allNames(l []string) bool {
	if len(l) > api.MaxDepth {
		return false
	}
	for _, s := range l {
		if !Check(s) {
			return false
		}
	}
	return true
}
