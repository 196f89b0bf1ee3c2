// Package name is layer 1: names of declarations.
package name

import (
	"slices"
	"strconv"
	"strings"

	"scholium/api"
)

// Right: is it a name?
func Right(s string) bool {
	if len(s) > api.MaxName {
		return false
	}
	start := true // are we at a part's beginning?
	odd := strings.IndexFunc(s, func(r rune) bool {
		first := start
		start = r == '.'
		return !plain(r, first)
	})
	return odd < 0 && !start
}

// plain: may it stand in a name, at a part's beginning or within one?
func plain(r rune, first bool) bool {
	switch {
	case r == '_' || r >= 'a' && r <= 'z':
		return true
	case r == '.' || r >= '0' && r <= '9':
		return !first
	}
	return false
}

// Parts: a name's parts.
func Parts(s string) []string {
	if !Right(s) {
		return nil
	}
	return strings.Split(s, ".")
}

// Join: the name of parts.
func Join(parts ...string) (string, bool) {
	long := len(parts)
	for _, p := range parts {
		long += len(p)
		if !Right(p) || long > api.MaxName+1 {
			return "", false
		}
	}
	return strings.Join(parts, "."), len(parts) > 0
}

// Parent: the name without its last part.
func Parent(s string) string {
	if !Right(s) {
		return ""
	}
	return s[:max(strings.LastIndexByte(s, '.'), 0)]
}

// Last: its last part.
func Last(s string) string {
	if !Right(s) {
		return ""
	}
	return s[strings.LastIndexByte(s, '.')+1:]
}

// Under: is a name another one, or does it stand under that?
func Under(s, top string) bool {
	if !Right(s) || !Right(top) {
		return false
	}
	return s == top || strings.HasPrefix(s, top+".")
}

// Fresh: a name that isn't taken.
func Fresh(s string, taken ...string) string {
	if !Right(s) {
		return ""
	}
	gone := make(map[string]struct{}, len(taken))
	for _, t := range taken {
		gone[t] = struct{}{}
	}
	found := s
	for n := 1; ; n++ {
		if _, there := gone[found]; !there {
			return found
		}
		found = numbered(s, n)
	}
}

// numbered: a name with a number behind it, cut so that it is a name still.
func numbered(s string, n int) string {
	tail := "_" + strconv.Itoa(n)
	if room := api.MaxName - len(tail); len(s) > room {
		s = strings.TrimRight(s[:room], ".")
	}
	return s + tail
}

// Sort: texts in order, each once.
func Sort(l []string) []string {
	out := slices.Clone(l)
	slices.Sort(out)
	return slices.Compact(out)
}
