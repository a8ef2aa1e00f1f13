package tree_test

import (
	"bytes"
	"math"
	"slices"
	"strconv"
	"strings"
	"testing"

	"mailcoach/api"
	"mailcoach/tree"
)

// node: a key's, with a text as its value.
func node(key, value string, version, owner uint64) api.Node {
	return api.Node{Key: key, Value: []byte(value), Version: version, Owner: owner}
}

// same: two nodes, in all their fields.
func same(a, b api.Node) bool {
	return a.Key == b.Key && bytes.Equal(a.Value, b.Value) && a.Version == b.Version && a.Owner == b.Owner
}

// told: nodes as a text, short enough for a test's word.
func told(l []api.Node) string {
	var b strings.Builder
	for i, n := range l {
		if i == 5 {
			b.WriteString(" and others, " + strconv.Itoa(len(l)) + " in all")
			break
		}
		b.WriteString(" " + strconv.Quote(n.Key[:min(len(n.Key), 20)]) + "=" + strconv.Quote(string(n.Value[:min(len(n.Value), 20)])))
		b.WriteString("/" + strconv.FormatUint(n.Version, 10) + "/" + strconv.FormatUint(n.Owner, 10))
	}
	return b.String()
}

// hold: the nodes whose keys begin so, each by Get, too.
func hold(t *testing.T, what string, x *tree.Tree, prefix string, want ...api.Node) {
	t.Helper()
	got := x.List(prefix)
	if !slices.EqualFunc(got, want, same) {
		t.Fatalf("P6.2: %s: List(%.20q):%s, want%s", what, prefix, told(got), told(want))
	}
	for _, w := range want {
		if n, ok := x.Get(w.Key); !ok || !same(n, w) {
			t.Fatalf("P6.2: %s: Get(%.20q): %v,%s", what, w.Key, ok, told([]api.Node{n}))
		}
	}
}

// holdNone: a key that isn't there.
func holdNone(t *testing.T, what string, x *tree.Tree, key string) {
	t.Helper()
	if n, ok := x.Get(key); ok || !same(n, api.Node{}) {
		t.Errorf("P6.2, R3: %s: Get(%.20q): %v,%s", what, key, ok, told([]api.Node{n}))
	}
}

// put: what isn't refused; the version is one more than was wanted.
func put(t *testing.T, x *tree.Tree, key, value string, want, owner uint64) {
	t.Helper()
	if v, e := x.Put(key, []byte(value), want, owner); v != want+1 || e != api.OK {
		t.Fatalf("P6.1: Put(%.20q, %.20q, %d, %d): %d, error %d", key, value, want, owner, v, e)
	}
}

// refused: a Put that answers an error, and changes nothing.
func refused(t *testing.T, x *tree.Tree, key, value string, want, owner uint64, code api.Errno) {
	t.Helper()
	before := x.List("")
	if v, e := x.Put(key, []byte(value), want, owner); v != 0 || e != code {
		t.Errorf("P6.1: Put(%.20q, %d bytes, %d, %d): %d, error %d, want %d", key, len(value), want, owner, v, e, code)
	}
	hold(t, "R4: behind a Put that was refused", x, "", before...)
}

// deletes: Delete of a key, and its error; one that is refused changes nothing.
func deletes(t *testing.T, x *tree.Tree, key string, want uint64, code api.Errno) {
	t.Helper()
	before := x.List("")
	if e := x.Delete(key, want); e != code {
		t.Errorf("P6.2: Delete(%.20q, %d): error %d, want %d", key, want, e, code)
	}
	if code != api.OK {
		hold(t, "R4: behind a Delete that was refused", x, "", before...)
		return
	}
	holdNone(t, "behind Delete", x, key)
	hold(t, "behind Delete", x, "", slices.DeleteFunc(before, func(n api.Node) bool { return n.Key == key })...)
}

// loaded: a tree of these nodes.
func loaded(t *testing.T, l ...api.Node) *tree.Tree {
	t.Helper()
	x, ok := tree.Load(l)
	if !ok || x == nil {
		t.Fatalf("P6.3: Load of%s: %v", told(l), ok)
	}
	hold(t, "behind Load", x, "", l...)
	return x
}

// many: n nodes, their keys rising.
func many(n int) []api.Node {
	var l []api.Node
	for i := range n {
		l = append(l, node("k"+strconv.Itoa(1000+i), strconv.Itoa(i), uint64(i+1), uint64(i%5)))
	}
	return l
}

func TestExamples(t *testing.T) {
	x := tree.New()
	put(t, x, "a", "x", 0, 7)
	refused(t, x, "a", "y", 0, 7, api.ErrExists)
	put(t, x, "a", "y", 1, 9)
	hold(t, "the chapter's example", x, "", node("a", "y", 2, 7))
}

func TestNewHasNoKeys(t *testing.T) {
	for name, x := range map[string]*tree.Tree{"a new tree": tree.New(), "a zero tree": {}, "a tree of no nodes": loaded(t)} {
		hold(t, name, x, "")
		hold(t, name, x, "a")
		holdNone(t, name, x, "")
		holdNone(t, name, x, "a")
		refused(t, x, "a", "x", 1, 1, api.ErrNone)
		deletes(t, x, "a", 0, api.ErrNone)
		x.Drop(0)
		x.Drop(1)
		put(t, x, "a", "x", 0, 1)
		hold(t, name+", behind Put", x, "", node("a", "x", 1, 1))
	}
}

func TestPutOfKeysByLength(t *testing.T) {
	x := tree.New()
	long := strings.Repeat("k", api.MaxName)
	wide := strings.Repeat("ä", api.MaxName/2) // two bytes each: 64
	for _, key := range []string{"", long + "k", wide + "ä", wide + "k", strings.Repeat(long, 100)} {
		for _, want := range []uint64{0, 1, math.MaxUint64} {
			refused(t, x, key, "x", want, 1, api.ErrName)
			deletes(t, x, key, want, api.ErrNone)
		}
		holdNone(t, "a key of a length that none has", x, key)
	}
	keys := []string{"\x00", "k", long[1:], long, wide, "\xff", "\xff\xfe no text", strings.Repeat("\x00", api.MaxName)}
	for _, key := range keys {
		put(t, x, key, key, 0, 1)
		put(t, x, key, key+key, 1, 1)
	}
	slices.Sort(keys)
	var want []api.Node
	for _, key := range keys {
		want = append(want, node(key, key+key, 2, 1))
	}
	hold(t, "keys of all lengths", x, "", want...)
}

func TestPutOfValuesByLength(t *testing.T) {
	x := tree.New()
	most := strings.Repeat("v", api.MaxValue)
	for _, more := range []string{most + "v", strings.Repeat(most, 30)} {
		refused(t, x, "a", more, 0, 1, api.ErrLong)
	}
	put(t, x, "a", most, 0, 1)
	hold(t, "the greatest value", x, "", node("a", most, 1, 1))
	refused(t, x, "a", most+"v", 1, 1, api.ErrLong)
	put(t, x, "a", "", 1, 1)
	hold(t, "a value of no bytes", x, "", node("a", "", 2, 1))
	if v, e := x.Put("a", nil, 2, 1); v != 3 || e != api.OK {
		t.Errorf("R5: Put of nil: %d, error %d", v, e)
	}
	put(t, x, "a", most[1:], 3, 1)
	hold(t, "a value behind one of no bytes", x, "", node("a", most[1:], 4, 1))
}

func TestPutOfVersions(t *testing.T) {
	x := tree.New()
	for _, want := range []uint64{1, 2, math.MaxUint64} {
		refused(t, x, "a", "x", want, 1, api.ErrNone)
	}
	for version := range uint64(5) {
		for _, want := range []uint64{version - 1, version + 1, version + 2, version + 1<<32, math.MaxUint64} {
			switch {
			case want == 0 && version > 0:
				refused(t, x, "a", "no", want, 2, api.ErrExists)
			case want != 0 && version > 0:
				refused(t, x, "a", "no", want, 2, api.ErrVersion)
			case want != 0:
				refused(t, x, "a", "no", want, 2, api.ErrNone)
			}
		}
		put(t, x, "a", strconv.FormatUint(version, 10), version, version+7)
		hold(t, "behind Put", x, "", node("a", strconv.FormatUint(version, 10), version+1, 7))
	}
}

func TestPutOfTheGreatestVersions(t *testing.T) {
	x := loaded(t, node("a", "x", math.MaxUint64-1, 3))
	put(t, x, "a", "y", math.MaxUint64-1, 4)
	hold(t, "the greatest version", x, "", node("a", "y", math.MaxUint64, 3))
	refused(t, x, "a", "no", 0, 4, api.ErrExists)
	put(t, x, "a", "z", math.MaxUint64, 4) // a version more is 0
	hold(t, "behind the greatest version", x, "", node("a", "z", 0, 3))
	refused(t, x, "a", "no", 0, 4, api.ErrExists)
	refused(t, x, "a", "no", 1, 4, api.ErrVersion)
	deletes(t, x, "a", 0, api.OK)
}

func TestPutKeepsTheOwner(t *testing.T) {
	for _, first := range []uint64{0, 1, 7, math.MaxUint64} {
		for _, then := range []uint64{0, 1, 7, math.MaxUint64} {
			x := tree.New()
			put(t, x, "a", "x", 0, first)
			hold(t, "a key that wasn't there", x, "", node("a", "x", 1, first))
			put(t, x, "a", "y", 1, then)
			hold(t, "a key that was there", x, "", node("a", "y", 2, first))
			deletes(t, x, "a", 2, api.OK)
			put(t, x, "a", "z", 0, then)
			hold(t, "a key that was there once", x, "", node("a", "z", 1, then))
		}
	}
}

func TestPutOfManyKeys(t *testing.T) {
	all := many(api.MaxKeys + 1)
	x := tree.New()
	for i := range api.MaxKeys {
		n := all[i*101%api.MaxKeys] // from all sides
		put(t, x, n.Key, "", 0, n.Owner)
	}
	more := all[api.MaxKeys].Key
	for _, key := range []string{more, "a", "z", all[100].Key + "b"} {
		refused(t, x, key, "x", 0, 1, api.ErrMany)
	}
	for i, n := range all[:api.MaxKeys] {
		put(t, x, n.Key, string(n.Value), 1, 99)
		all[i].Version = 2
	}
	hold(t, "as many keys as there may be", x, "", all[:api.MaxKeys]...)
	deletes(t, x, all[77].Key, 2, api.OK)
	put(t, x, more, "x", 0, 1)
	refused(t, x, all[77].Key, "x", 0, 1, api.ErrMany)
	x.Drop(1)
	put(t, x, all[77].Key, "x", 0, 1)
}

// R2: of the errors that a Put could answer, the one that the sentence names first.
func TestPutAnswersTheFirstError(t *testing.T) {
	full := loaded(t, many(api.MaxKeys)...)
	there, fresh := many(1)[0].Key, "fresh"
	wrong, long := strings.Repeat("k", api.MaxName+1), strings.Repeat("v", api.MaxValue+1)
	for _, want := range []uint64{0, 1, 2, math.MaxUint64} {
		for _, key := range []string{"", wrong} {
			refused(t, full, key, long, want, 1, api.ErrName)
			refused(t, full, key, "x", want, 1, api.ErrName)
		}
		refused(t, full, there, long, want, 1, api.ErrLong)
		refused(t, full, fresh, long, want, 1, api.ErrLong)
	}
	refused(t, full, there, "x", 0, 1, api.ErrExists)
	refused(t, full, there, "x", 2, 1, api.ErrVersion)
	refused(t, full, fresh, "x", 1, 1, api.ErrNone)
	refused(t, full, fresh, "x", math.MaxUint64, 1, api.ErrNone)
	refused(t, full, fresh, "x", 0, 1, api.ErrMany)
}

func TestGet(t *testing.T) {
	l := []api.Node{node("a", "1", 1, 0), node("a\x00", "2", 5, 3), node("ab", "", 2, 3), node("b", "3", math.MaxUint64, math.MaxUint64)}
	x := loaded(t, l...)
	for _, key := range []string{"", "\x00", "A", "a\x00\x00", "aa", "aba", "ac", "b\x00", "c", "\xff", strings.Repeat("a", 65)} {
		holdNone(t, "a key that isn't there", x, key)
	}
	hold(t, "behind Get", x, "", l...)
}

func TestList(t *testing.T) {
	keys := []string{
		"\x00", "\x00\x00", "A", "B", "a", "a/", "a/1", "a/10", "a/2", "a0", "aa", "a\x7f", "a\x80", "aé", "a\xff", "a\xff\xff", "b", "b/1", "e\u0301", "é", "世", "\xff", "\xff\x00", "\xff\xff",
		strings.Repeat("m", 63), strings.Repeat("m", 64),
	}
	x := tree.New()
	for i := range keys {
		key := keys[i*7%len(keys)] // from all sides
		put(t, x, key, key, 0, uint64(i))
	}
	prefixes := append([]string{"", "a/3", "a\xfe", "aé\x00", "c", "\x01", "世\x00", "\xc3", "\xe4\xb8", strings.Repeat("m", 65), "\xff\xff\xff", "a/1\x00"}, keys...)
	for _, prefix := range prefixes {
		var want []string
		for _, key := range keys {
			if len(key) >= len(prefix) && key[:len(prefix)] == prefix {
				want = append(want, key)
			}
		}
		slices.SortFunc(want, func(a, b string) int { return bytes.Compare([]byte(a), []byte(b)) })
		var got []string
		for _, n := range x.List(prefix) {
			if string(n.Value) != n.Key || n.Version != 1 {
				t.Errorf("P6.2: List(%q): of %q a wrong node", prefix, n.Key)
			}
			got = append(got, n.Key)
		}
		if !slices.Equal(got, want) {
			t.Errorf("P6.2: List(%.20q): %.20q, want %.20q", prefix, got, want)
		}
	}
}

func TestDelete(t *testing.T) {
	for version := uint64(1); version < 4; version++ {
		x := loaded(t, node("a", "1", version, 1), node("b", "2", version, 2), node("c", "3", version, 3))
		for _, key := range []string{"", "\x00", "aa", "bb", "d", strings.Repeat("a", 65)} {
			for _, want := range []uint64{0, version, math.MaxUint64} {
				deletes(t, x, key, want, api.ErrNone)
			}
		}
		for _, key := range []string{"b", "a", "c"} {
			for _, want := range []uint64{0, version - 1, version + 1, version + 1<<32, math.MaxUint64} {
				deletes(t, x, key, want, api.ErrVersion)
			}
			deletes(t, x, key, version, api.OK)
			deletes(t, x, key, version, api.ErrNone)
			deletes(t, x, key, 0, api.ErrNone)
			refused(t, x, key, "x", version, 1, api.ErrNone)
		}
		hold(t, "behind all Deletes", x, "")
		put(t, x, "b", "new", 0, 5)
		hold(t, "a key that was there once", x, "", node("b", "new", 1, 5))
	}
}

func TestDrop(t *testing.T) {
	owners := []uint64{1, 0, 2, 1, 1, math.MaxUint64, 0, 2, 1}
	for _, owner := range []uint64{0, 1, 2, 3, math.MaxUint64 - 1, math.MaxUint64} {
		x := tree.New()
		var want []api.Node
		for i, o := range owners {
			key := string(rune('a' + i))
			put(t, x, key, key, 0, o)
			put(t, x, key, key+key, 1, owner) // it doesn't belong to this one
			if o != owner || owner == 0 {
				want = append(want, node(key, key+key, 2, o))
			}
		}
		for range 2 {
			x.Drop(owner)
			hold(t, "behind Drop of "+strconv.FormatUint(owner, 10), x, "", want...)
			for i, o := range owners {
				if o == owner && owner != 0 {
					holdNone(t, "behind Drop", x, string(rune('a'+i)))
				}
			}
		}
		put(t, x, "z", "new", 0, owner)
		hold(t, "behind Drop and Put", x, "z", node("z", "new", 1, owner))
	}
}

func TestDropOfAll(t *testing.T) {
	l := many(api.MaxKeys)
	for i := range l {
		l[i].Owner = 6
	}
	x := loaded(t, l...)
	x.Drop(5)
	hold(t, "behind Drop of one who has none", x, "", l...)
	x.Drop(6)
	hold(t, "behind Drop of all", x, "")
	put(t, x, l[3].Key, "x", 0, 6)
	hold(t, "behind Drop of all and Put", x, "", node(l[3].Key, "x", 1, 6))
}
