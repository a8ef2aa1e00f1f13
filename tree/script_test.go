package tree_test

import (
	"bytes"
	"math/rand"
	"slices"
	"strconv"
	"strings"
	"testing"

	"mailcoach/api"
	"mailcoach/tree"
)

// plain is a tree by the chapter's words: nodes in the order in which they came.
type plain struct{ l []api.Node }

// at: where a key's node is; -1: nowhere.
func (p *plain) at(key string) int {
	for i, n := range p.l {
		if n.Key == key {
			return i
		}
	}
	return -1
}

func (p *plain) put(key, value string, want, owner uint64) (uint64, api.Errno) {
	i := p.at(key)
	if len(key) < 1 || len(key) > 64 {
		return 0, api.ErrName
	}
	if len(value) > 3840 {
		return 0, api.ErrLong
	}
	if want == 0 && i >= 0 {
		return 0, api.ErrExists
	}
	if want != 0 && i < 0 {
		return 0, api.ErrNone
	}
	if i >= 0 && p.l[i].Version != want {
		return 0, api.ErrVersion
	}
	if i < 0 && len(p.l) == 256 {
		return 0, api.ErrMany
	}
	if i < 0 {
		p.l = append(p.l, node(key, value, want+1, owner))
		return want + 1, api.OK
	}
	p.l[i] = node(key, value, want+1, p.l[i].Owner)
	return want + 1, api.OK
}

func (p *plain) delete(key string, want uint64) api.Errno {
	i := p.at(key)
	if i < 0 {
		return api.ErrNone
	}
	if p.l[i].Version != want {
		return api.ErrVersion
	}
	p.l = append(p.l[:i:i], p.l[i+1:]...)
	return api.OK
}

func (p *plain) drop(owner uint64) {
	var l []api.Node
	for _, n := range p.l {
		if owner == 0 || n.Owner != owner {
			l = append(l, n)
		}
	}
	p.l = l
}

func (p *plain) list(prefix string) []api.Node {
	var l []api.Node
	for _, n := range p.l {
		if bytes.HasPrefix([]byte(n.Key), []byte(prefix)) {
			l = append(l, n)
		}
	}
	slices.SortFunc(l, func(a, b api.Node) int { return bytes.Compare([]byte(a.Key), []byte(b.Key)) })
	return l
}

// step is one call, of a tree and of a plain one; both answer its numbers.
type step struct {
	name string
	of   func(x *tree.Tree) (uint64, api.Errno)
	by   func(p *plain) (uint64, api.Errno)
}

func puts(key, value string, want, owner uint64) step {
	return step{
		"Put(" + strings.Join([]string{strconv.Quote(key), strconv.Quote(value), strconv.FormatUint(want, 10), strconv.FormatUint(owner, 10)}, ", ") + ")",
		func(x *tree.Tree) (uint64, api.Errno) { return x.Put(key, []byte(value), want, owner) },
		func(p *plain) (uint64, api.Errno) { return p.put(key, value, want, owner) },
	}
}

func goes(key string, want uint64) step {
	return step{
		"Delete(" + strconv.Quote(key) + ", " + strconv.FormatUint(want, 10) + ")",
		func(x *tree.Tree) (uint64, api.Errno) { return 0, x.Delete(key, want) },
		func(p *plain) (uint64, api.Errno) { return 0, p.delete(key, want) },
	}
}

func drops(owner uint64) step {
	of := func(x *tree.Tree) (uint64, api.Errno) {
		x.Drop(owner)
		return 0, api.OK
	}
	by := func(p *plain) (uint64, api.Errno) {
		p.drop(owner)
		return 0, api.OK
	}
	return step{"Drop(" + strconv.FormatUint(owner, 10) + ")", of, by}
}

// play: a script on a tree, held against a plain one behind each step; prefixes are those that are listed, and the keys that are got.
func play(t *testing.T, script []step, prefixes []string) (*tree.Tree, *plain) {
	t.Helper()
	x, p := tree.New(), &plain{}
	for i, s := range script {
		v, e := s.of(x)
		w, f := s.by(p)
		ok := v == w && e == f
		for _, prefix := range prefixes {
			ok = ok && slices.EqualFunc(x.List(prefix), p.list(prefix), same)
			n, there := x.Get(prefix)
			at := p.at(prefix)
			ok = ok && there == (at >= 0) && (!there && same(n, api.Node{}) || there && same(n, p.l[at]))
		}
		if !ok {
			t.Fatalf("P6.1, P6.2: %s: %d, error %d; want %d, error %d; nodes%s, want%s", names(script[:i+1]), v, e, w, f, told(x.List("")), told(p.list("")))
		}
	}
	return x, p
}

// names: of a script's last steps.
func names(script []step) string {
	var l []string
	for _, s := range script[max(0, len(script)-8):] {
		l = append(l, s.name)
	}
	return strings.Join(l, ", ")
}

func TestAllShortScripts(t *testing.T) {
	steps := []step{
		puts("a", "1", 0, 0), puts("a", "2", 0, 1), puts("a", "3", 1, 2), puts("a", "", 2, 1), puts("ab", "4", 0, 1), puts("ab", "5", 1, 0),
		goes("a", 1), goes("a", 2), goes("ab", 1), drops(0), drops(1), drops(2),
	}
	const length = 5
	var script [length]step
	for n := range 12 * 12 * 12 * 12 * 12 { // twelve steps at five places
		for i := range script {
			script[i] = steps[n%len(steps)]
			n /= len(steps)
		}
		play(t, script[:], []string{"", "a", "ab"})
	}
}

func TestLongScripts(t *testing.T) {
	random := rand.New(rand.NewSource(1))
	letters := []string{"", "a", "b", "/", "\x00", "\xff", "é"}
	word := func(n int) string {
		s := ""
		for range random.Intn(n) {
			s += letters[random.Intn(len(letters))]
		}
		return s
	}
	for range 60 {
		var script []step
		for range 300 {
			switch random.Intn(12) {
			case 0, 1:
				script = append(script, goes(word(4), uint64(random.Intn(4))))
			case 2:
				script = append(script, drops(uint64(random.Intn(6))))
			default:
				script = append(script, puts(word(4), word(6), uint64(random.Intn(4)), uint64(random.Intn(20))))
			}
		}
		x, p := play(t, script, []string{"", "a", "a/", "\x00", "\xff", "\xff\xff", "\xc3", "é", word(4), word(4)})
		loaded(t, x.List("")...)
		if y, ok := tree.Load(p.list("")); !ok || !slices.EqualFunc(y.List(""), x.List(""), same) {
			t.Errorf("P6.3: Load of a tree's nodes: %v", ok)
		}
	}
}

func TestLongScriptsOfAlmostTooManyKeys(t *testing.T) {
	random := rand.New(rand.NewSource(2))
	for range 3 {
		var script []step
		for range 3000 {
			key := strconv.Itoa(random.Intn(270))
			switch random.Intn(30) {
			case 0:
				script = append(script, goes(key, uint64(random.Intn(3))))
			case 1:
				script = append(script, drops(uint64(100+random.Intn(900))))
			default:
				script = append(script, puts(key, key, uint64(random.Intn(2)*random.Intn(3)), uint64(100+random.Intn(900))))
			}
		}
		_, p := play(t, script, []string{"", "1", "26", "269"})
		if len(p.l) < 200 {
			t.Errorf("the script ends with %d keys: it should go to their limit", len(p.l))
		}
	}
}

func TestTheSameCallsAreAnsweredTheSame(t *testing.T) {
	random := rand.New(rand.NewSource(3))
	used, fresh := tree.New(), tree.New()
	for i := range 2000 { // a tree that once had others is as good as another one
		used.Put(strconv.Itoa(random.Intn(300)), make([]byte, random.Intn(50)), 0, uint64(i%7+1))
		used.Drop(uint64(random.Intn(40)))
	}
	for owner := range uint64(8) {
		used.Drop(owner)
	}
	for range 500 {
		key, want := strconv.Itoa(random.Intn(20)), uint64(random.Intn(3))
		v, e := used.Put(key, []byte(key), want, 1)
		w, f := fresh.Put(key, []byte(key), want, 1)
		if v != w || e != f || !slices.EqualFunc(used.List(""), fresh.List(""), same) {
			t.Fatalf("R8: Put(%q, %d): %d, error %d, and elsewhere %d, error %d", key, want, v, e, w, f)
		}
	}
}
