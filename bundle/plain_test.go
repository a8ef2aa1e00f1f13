package bundle_test

import (
	"maps"
	"slices"
	"strconv"
	"strings"

	"mailcoach/api"
	"mailcoach/bundle"
)

// plain is a map by the chapter's words: of each number whether a bundle begins there.
type plain map[int]bool

// fresh: one bundle, of all hashes.
func fresh() plain { return plain{0: true} }

// of: the greatest beginning up to a hash, and the least one behind it.
func (p plain) of(hash int) (lo, hi int, ok bool) {
	if hash < 0 || hash > 65535 {
		return 0, 0, false
	}
	hi = 65536
	for at := range p {
		if at <= hash {
			lo = max(lo, at)
		} else {
			hi = min(hi, at)
		}
	}
	return lo, hi, true
}

func (p plain) split(at int) api.Errno {
	if at < 1 || at > 65535 {
		return api.ErrRange
	}
	if p[at] {
		return api.ErrExists
	}
	if len(p) == 16 {
		return api.ErrMany
	}
	p[at] = true
	return api.OK
}

func (p plain) join(at int) api.Errno {
	if at < 1 || at > 65535 {
		return api.ErrRange
	}
	if !p[at] {
		return api.ErrNone
	}
	delete(p, at)
	return api.OK
}

// all: rising.
func (p plain) all() []int { return slices.Sorted(maps.Keys(p)) }

// step is one call: a Split or a Join, and where.
type step struct {
	join bool
	at   int
}

// of: what a map answers to a step.
func (s step) of(m *bundle.Map) api.Errno {
	if s.join {
		return m.Join(s.at)
	}
	return m.Split(s.at)
}

// by: what a plain one answers to it.
func (s step) by(p plain) api.Errno {
	if s.join {
		return p.join(s.at)
	}
	return p.split(s.at)
}

// names: of a script's last steps.
func names(script []step) string {
	var l []string
	for _, s := range script[max(0, len(script)-20):] {
		call := "Split"
		if s.join {
			call = "Join"
		}
		l = append(l, call+"("+strconv.Itoa(s.at)+")")
	}
	return strings.Join(l, " ")
}
