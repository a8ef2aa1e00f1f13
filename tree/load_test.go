package tree_test

import (
	"bytes"
	"math"
	"slices"
	"strings"
	"testing"

	"mailcoach/api"
	"mailcoach/tree"
)

func TestLoad(t *testing.T) {
	long, most := strings.Repeat("k", api.MaxName), strings.Repeat("v", api.MaxValue)
	for name, l := range map[string][]api.Node{
		"one":                   {node("a", "x", 1, 0)},
		"none":                  {},
		"the greatest node":     {node(long, most, math.MaxUint64, math.MaxUint64)},
		"two with one's prefix": {node("a", "", 1, 1), node("a\x00", "", 1, 1)},
		"two far apart":         {node("\x00", "", 7, 1), node("\xff", "", 3, 0)},
		"bytes, not letters":    {node("B", "", 1, 0), node("a", "", 1, 0), node("z", "", 1, 0), node("é", "", 1, 0), node("\xff", "", 1, 0)},
		"all keys":              many(api.MaxKeys),
		"all keys but one":      many(api.MaxKeys - 1),
	} {
		x := loaded(t, l...)
		for i, n := range l {
			if n.Version < math.MaxUint64 {
				put(t, x, n.Key, "new", n.Version, n.Owner+1)
				l[i] = node(n.Key, "new", n.Version+1, n.Owner)
				hold(t, "Load of "+name+", and Put", x, "", l...)
			}
		}
	}
	if x, ok := tree.Load(nil); !ok || x == nil || len(x.List("")) != 0 {
		t.Errorf("P6.3, R5: Load of nil: %v", ok)
	}
}

func TestLoadRefuses(t *testing.T) {
	good := node("m", "x", 1, 1)
	long, most := strings.Repeat("n", api.MaxName+1), strings.Repeat("v", api.MaxValue+1)
	for name, l := range map[string][]api.Node{
		"a key without bytes":                 {node("", "x", 1, 1)},
		"a key without bytes ahead":           {node("", "x", 1, 1), good},
		"a key of 65 bytes":                   {node(long, "x", 1, 1)},
		"a key of 65 bytes behind":            {good, node(long, "x", 1, 1)},
		"a value of 3841 bytes":               {node("a", most, 1, 1)},
		"a value of 3841 bytes ahead":         {node("a", most, 1, 1), good},
		"a value of 3841 bytes behind":        {good, node("z", most, 1, 1)},
		"the version 0":                       {node("a", "x", 0, 1)},
		"the version 0 ahead":                 {node("a", "x", 0, 1), good},
		"the version 0 behind":                {good, node("z", "x", 0, 1)},
		"the same key twice":                  {good, good},
		"the same key twice, else otherwise":  {good, node("m", "y", 2, 2)},
		"keys that fall":                      {good, node("a", "x", 1, 1)},
		"keys that fall at the end":           {node("a", "x", 1, 1), node("c", "x", 1, 1), node("b", "x", 1, 1)},
		"a key ahead of its prefix":           {node("ma", "x", 1, 1), good},
		"keys that rise as letters":           {node("a", "x", 1, 1), node("B", "x", 1, 1)},
		"keys that rise as bytes with a sign": {node("\xff", "x", 1, 1), node("a", "x", 1, 1)},
		"a key more than there may be":        many(api.MaxKeys + 1),
		"many keys more than there may be":    many(20 * api.MaxKeys),
		"a zero node":                         {{}},
	} {
		if x, ok := tree.Load(l); ok || x != nil {
			t.Errorf("P6.3, R3: Load of %s: %v, %v", name, x, ok)
		}
	}
	for i := range api.MaxKeys {
		l := many(api.MaxKeys)
		l[i].Version = 0
		if _, ok := tree.Load(l); ok {
			t.Errorf("P6.3: Load of 256 nodes, the version of the %d. 0: true", i)
		}
		if l = many(api.MaxKeys); i > 0 {
			l[i].Key = l[i-1].Key
			if _, ok := tree.Load(l); ok {
				t.Errorf("P6.3: Load of 256 nodes, the %d. with the key ahead of it: true", i)
			}
		}
	}
}

// copies: of nodes, with values of their own.
func copies(l []api.Node) []api.Node {
	l = slices.Clone(l)
	for i := range l {
		l[i].Value = bytes.Clone(l[i].Value)
	}
	return l
}

// scribble: over nodes, their values, and the spare room behind all of these.
func scribble(l []api.Node) {
	for i := range l {
		v := l[i].Value[:cap(l[i].Value)]
		for j := range v {
			v[j] = '#'
		}
	}
	l = l[:cap(l)]
	for i := range l {
		l[i] = node("scribble", "scribble", 88, 8)
	}
}

func TestWhatIsHandedInIsLeftAlone(t *testing.T) {
	whole := []byte("ahead, the bytes, and spare room")
	before := bytes.Clone(whole)
	part := whole[7:16]
	x := tree.New()
	x.Put("a", part, 0, 1)
	x.Put("b", part, 0, 1)
	x.Put("b", part, 1, 1)
	x.Put("a", part, 0, 1)
	put(t, x, "c", "more", 0, 1)
	if !bytes.Equal(whole, before) {
		t.Errorf("R6: what was put, or room around it, was changed: %q", whole)
	}
	copy(part, "scribbled")
	hold(t, "R6: behind scribbles in what was put", x, "", node("a", "the bytes", 1, 1), node("b", "the bytes", 2, 1), node("c", "more", 1, 1))
}

func TestNodesThatAreHandedInAreLeftAlone(t *testing.T) {
	mark := node("mark", "mark", 77, 7)
	nodes := []api.Node{node("a", "1", 1, 1), node("b", "", 2, 0), node("c", "333", 3, 1)}
	whole := slices.Concat([]api.Node{mark}, nodes, []api.Node{mark, mark, mark})
	whole[1].Value, whole[3].Value = make([]byte, 1, 50), make([]byte, 3, 50)
	copy(whole[1].Value, "1")
	copy(whole[3].Value, "333")
	before, part := copies(whole), whole[1:4]
	x := loaded(t, part...)
	put(t, x, "d", "4", 0, 1)
	put(t, x, "a", "11", 1, 1)
	x.Drop(1)
	deletes(t, x, "b", 2, api.OK)
	if !slices.EqualFunc(whole, before, same) || !bytes.Equal(whole[1].Value[:50], append([]byte("1"), make([]byte, 49)...)) {
		t.Errorf("R6: what was loaded, or room around it, was changed:%s", told(whole))
	}
	x, _ = tree.Load(part)
	scribble(part)
	hold(t, "R6: behind scribbles in what was loaded", x, "", nodes...)
	v := []byte("shared")
	x = loaded(t, api.Node{Key: "a", Value: v[:3], Version: 1}, api.Node{Key: "b", Value: v, Version: 1})
	copy(v, "######")
	hold(t, "R6: nodes that shared a value", x, "", node("a", "sha", 1, 0), node("b", "shared", 1, 0))
}

func TestAnswersAreNewMemory(t *testing.T) {
	l := []api.Node{node("a", "1", 1, 1), node("ab", "22", 2, 0), node("b", "", 3, 1), node("c", "4444", 4, 2)}
	x := loaded(t, l...)
	put(t, x, "d", "55555", 0, 1)
	l = append(l, node("d", "55555", 1, 1))
	first, second, some := x.List(""), x.List(""), x.List("a")
	one, _ := x.Get("c")
	for i := range first {
		_ = append(first[i].Value, "scribbles"...)
	}
	if !slices.EqualFunc(first, l, same) {
		t.Errorf("R6: two values of an answer share memory:%s", told(first))
	}
	scribble(first)
	scribble(some)
	for i := range one.Value[:cap(one.Value)] {
		one.Value[:cap(one.Value)][i] = '#'
	}
	hold(t, "R6: behind scribbles in answers", x, "", l...)
	put(t, x, "aa", "new", 0, 1)
	put(t, x, "c", "new", 4, 1)
	deletes(t, x, "ab", 2, api.OK)
	x.Drop(1)
	if !slices.EqualFunc(second, l, same) {
		t.Errorf("R6: an answer goes with its tree:%s", told(second))
	}
}

func TestATreesOwnNodesMayBeHandedIn(t *testing.T) {
	l := many(9)
	x := loaded(t, l...)
	y := loaded(t, x.List("")...)
	for _, n := range x.List("") {
		put(t, x, n.Key, string(n.Value)+"!", n.Version, 0)
	}
	x.Drop(1)
	hold(t, "R8: a tree of another one's nodes", y, "", l...)
}

func TestNilTree(t *testing.T) {
	var x *tree.Tree
	for _, key := range []string{"", "a", strings.Repeat("a", 65)} {
		for _, want := range []uint64{0, 1} {
			for _, value := range [][]byte{nil, []byte("x"), make([]byte, api.MaxValue+1)} {
				if v, e := x.Put(key, value, want, 1); v != 0 || e != api.ErrNil {
					t.Errorf("R7: Put(%.20q, %d bytes, %d, 1) of a nil tree: %d, error %d", key, len(value), want, v, e)
				}
			}
			if e := x.Delete(key, want); e != api.ErrNil {
				t.Errorf("R7: Delete(%.20q, %d) of a nil tree: error %d", key, want, e)
			}
		}
		holdNone(t, "R7: a nil tree", x, key)
		if l := x.List(key); len(l) != 0 {
			t.Errorf("R7: List(%.20q) of a nil tree:%s", key, told(l))
		}
	}
	x.Drop(0)
	x.Drop(1)
}

func TestTreesAreNotInOneAnothersWay(t *testing.T) {
	one, other := tree.New(), tree.New()
	put(t, one, "a", "1", 0, 1)
	put(t, other, "b", "2", 0, 1)
	hold(t, "R8: the one tree", one, "", node("a", "1", 1, 1))
	one.Drop(1)
	hold(t, "R8: the other tree", other, "", node("b", "2", 1, 1))
	hold(t, "R8: the one tree", one, "")
	hold(t, "R8: a third tree", tree.New(), "")
}

func TestCopiesOfATreeGoTheirOwnWays(t *testing.T) {
	for n := 2; n < 40; n++ { // whatever room is left behind what stands there
		l := many(n)
		x := loaded(t, l[:n-1]...)
		put(t, x, l[n-1].Key, string(l[n-1].Value), 0, l[n-1].Owner)
		l[n-1].Version = 1
		ahead, behind, fresh, gone, dropped, left := *x, *x, *x, *x, *x, *x
		put(t, &ahead, "a", "1", 0, 9)
		put(t, &behind, "z", "2", 0, 9)
		put(t, x, "z", "3", 0, 9)
		put(t, &fresh, l[0].Key, "4", 1, 9)
		deletes(t, &gone, l[0].Key, 1, api.OK)
		dropped.Drop(1)
		hold(t, "R8: the tree", x, "", slices.Concat(l, []api.Node{node("z", "3", 1, 9)})...)
		hold(t, "R8: a copy that was left as it was", &left, "", l...)
		hold(t, "R8: a copy with a key ahead", &ahead, "", slices.Concat([]api.Node{node("a", "1", 1, 9)}, l)...)
		hold(t, "R8: a copy with a key behind", &behind, "", slices.Concat(l, []api.Node{node("z", "2", 1, 9)})...)
		hold(t, "R8: a copy with another value", &fresh, "", slices.Concat([]api.Node{node(l[0].Key, "4", 2, 0)}, l[1:])...)
		hold(t, "R8: a copy without a key", &gone, "", l[1:]...)
		hold(t, "R8: a copy without an owner's keys", &dropped, "", slices.DeleteFunc(slices.Clone(l), func(n api.Node) bool { return n.Owner == 1 })...)
	}
}
