package meta_test

import (
	"bytes"
	"math"
	"slices"
	"strconv"
	"strings"
	"testing"

	"mailcoach/api"
	"mailcoach/disk"
	"mailcoach/meta"
)

const top = math.MaxUint64

func put(key, value string, want, session uint64) api.Cmd {
	return api.Cmd{Kind: api.KPut, Key: key, Value: []byte(value), Want: want, Session: session}
}

func remove(key string, want uint64) api.Cmd {
	return api.Cmd{Kind: api.KDelete, Key: key, Want: want}
}

func open(life uint64) api.Cmd { return api.Cmd{Kind: api.KOpen, Ticks: life} }

func renew(id uint64) api.Cmd { return api.Cmd{Kind: api.KRenew, Session: id} }

func end(id uint64) api.Cmd { return api.Cmd{Kind: api.KClose, Session: id} }

func tick(n uint64) api.Cmd { return api.Cmd{Kind: api.KTick, Ticks: n} }

func snap() api.Cmd { return api.Cmd{Kind: api.KSnap} }

// said: a command as a text, short enough for a test's word.
func said(c api.Cmd) string {
	name := "kind " + strconv.Itoa(int(c.Kind))
	if c.Kind >= 1 && c.Kind <= 7 {
		name = []string{"KPut", "KDelete", "KOpen", "KRenew", "KClose", "KTick", "KSnap"}[c.Kind-1]
	}
	for _, s := range []string{c.Key, string(c.Value)} {
		name += " " + strconv.Quote(s[:min(len(s), 10)])
		if len(s) > 10 {
			name += ".." + strconv.Itoa(len(s))
		}
	}
	for _, n := range []uint64{c.Want, c.Session, c.Ticks} {
		name += " " + strconv.FormatUint(n, 10)
	}
	return name
}

// fresh: a new disk with room for so many bytes.
func fresh(t *testing.T, room int) *disk.Disk {
	t.Helper()
	d, e := disk.New(room)
	if e != api.OK {
		t.Fatalf("disk.New(%d): error %d", room, e)
	}
	return d
}

// laid: a disk with these bytes, and room for more, so many.
func laid(t *testing.T, b string, more int) *disk.Disk {
	t.Helper()
	d := fresh(t, len(b)+more)
	d.Append([]byte(b))
	return d
}

// keeper: the one of a disk.
func keeper(t *testing.T, d *disk.Disk) *meta.Keeper {
	t.Helper()
	k, e := meta.Open(d)
	if e != api.OK || k == nil {
		t.Fatalf("P8.2: Open: %v, error %d", k != nil, e)
	}
	return k
}

// began: a keeper of a new disk behind some commands.
func began(t *testing.T, l ...api.Cmd) (*meta.Keeper, *disk.Disk) {
	t.Helper()
	d := fresh(t, 1<<20)
	k := keeper(t, d)
	for _, c := range l {
		if _, _, e := k.Do(c); e != api.OK {
			t.Fatalf("P8.1: %s: error %d", said(c), e)
		}
	}
	return k, d
}

// same: two nodes, in all their fields.
func same(a, b api.Node) bool {
	return a.Key == b.Key && bytes.Equal(a.Value, b.Value) && a.Version == b.Version && a.Owner == b.Owner
}

// hold: a keeper's time, its live sessions (of those up to 40), and its nodes.
func hold(t *testing.T, what string, k *meta.Keeper, now uint64, live []uint64, want ...api.Node) {
	t.Helper()
	if got := k.Now(); got != now {
		t.Fatalf("P8.3: %s: Now: %d, want %d", what, got, now)
	}
	for id := range uint64(40) {
		if got := k.Live(id); got != slices.Contains(live, id) {
			t.Fatalf("P8.3: %s: Live(%d): %v; live are %v", what, id, got, live)
		}
	}
	if l := k.List(""); !slices.EqualFunc(l, want, same) {
		t.Fatalf("P8.3: %s: List: %.300v; want %.300v", what, l, want)
	}
	for _, w := range want {
		if n, ok := k.Get(w.Key); !ok || !same(n, w) {
			t.Fatalf("P8.3: %s: Get(%.20q): %v, %.100v; want %.100v", what, w.Key, ok, n, w)
		}
	}
}

// holdDisk: what stands on a disk; all is sure.
func holdDisk(t *testing.T, what string, d *disk.Disk, want string) {
	t.Helper()
	if got := string(d.Bytes()); got != want {
		t.Fatalf("%s: on the disk stand %.400q, want %.400q", what, got, want)
	}
	if got := d.Sure(); got != len(want) {
		t.Fatalf("%s: %d bytes are sure, want %d", what, got, len(want))
	}
}

// does: a command, its number, and the sessions that went.
func does(t *testing.T, k *meta.Keeper, c api.Cmd, n uint64, gone ...uint64) {
	t.Helper()
	got, l, e := k.Do(c)
	if got != n || !slices.Equal(l, gone) || e != api.OK {
		t.Fatalf("P8.1: %s: %d, %v, error %d; want %d, %v", said(c), got, l, e, n, gone)
	}
}

// live: which sessions are, of those up to 40.
func live(k *meta.Keeper) []uint64 {
	var l []uint64
	for id := range uint64(40) {
		if k.Live(id) {
			l = append(l, id)
		}
	}
	return l
}

// refuses: a command that is answered an error, and changes nothing.
func refuses(t *testing.T, k *meta.Keeper, d *disk.Disk, c api.Cmd, code api.Errno) {
	t.Helper()
	now, sessions, nodes, b := k.Now(), live(k), k.List(""), string(d.Bytes())
	n, gone, e := k.Do(c)
	if n != 0 || len(gone) != 0 || e != code {
		t.Errorf("P8.1, R3: %s: %d, %v, error %d; want error %d", said(c), n, gone, e, code)
	}
	hold(t, "R4: behind "+said(c)+", refused", k, now, sessions, nodes...)
	holdDisk(t, "R4: behind "+said(c)+", refused", d, b)
}

func TestExamples(t *testing.T) {
	k, _ := began(t)
	does(t, k, open(10), 1)
	does(t, k, put("a", "", 0, 1), 1)
	hold(t, "the chapter's example", k, 0, []uint64{1}, node("a", "", 1, 1))
	does(t, k, tick(10), 10, 1)
	hold(t, "the chapter's example", k, 10, nil)
	if n, ok := k.Get("a"); ok || !same(n, api.Node{}) {
		t.Errorf("P8.3: Get of a, that is gone: %v, %v", n, ok)
	}
}

func TestNothingAtFirst(t *testing.T) {
	k, d := began(t)
	hold(t, "a new keeper", k, 0, nil)
	holdDisk(t, "a new keeper", d, "")
	refuses(t, k, d, put("a", "x", 0, 1), api.ErrExpired)
	refuses(t, k, d, put("a", "x", 1, 0), api.ErrNone)
	refuses(t, k, d, remove("a", 0), api.ErrNone)
	refuses(t, k, d, renew(0), api.ErrNone)
	refuses(t, k, d, renew(1), api.ErrExpired)
	refuses(t, k, d, end(0), api.ErrNone)
	refuses(t, k, d, end(1), api.ErrNone)
	does(t, k, tick(0), 0)
	does(t, k, snap(), 0)
	hold(t, "a new keeper, behind what changes nothing", k, 0, nil)
}

func TestPut(t *testing.T) {
	k, d := began(t, open(5), open(9))
	does(t, k, put("a", "x", 0, 1), 1)
	does(t, k, put("b", "", 0, 0), 1)
	does(t, k, put("ab", "y", 0, 2), 1)
	hold(t, "behind KPut", k, 0, []uint64{1, 2}, node("a", "x", 1, 1), node("ab", "y", 1, 2), node("b", "", 1, 0))
	does(t, k, put("a", "z", 1, 2), 2)
	does(t, k, put("b", "w", 1, 1), 2)
	does(t, k, put("ab", "v", 1, 0), 2)
	want := []api.Node{node("a", "z", 2, 1), node("ab", "v", 2, 2), node("b", "w", 2, 0)}
	hold(t, "R8: a key that was there stays whose it is", k, 0, []uint64{1, 2}, want...)
	for _, id := range []uint64{0, 1, 2} {
		refuses(t, k, d, put("", "x", 0, id), api.ErrName)
		refuses(t, k, d, put(strings.Repeat("k", 65), "x", 0, id), api.ErrName)
		refuses(t, k, d, put("c", strings.Repeat("v", 3841), 0, id), api.ErrLong)
		refuses(t, k, d, put("a", "x", 0, id), api.ErrExists)
		refuses(t, k, d, put("c", "x", 1, id), api.ErrNone)
		refuses(t, k, d, put("a", "x", 1, id), api.ErrVersion)
		refuses(t, k, d, put("a", "x", 3, id), api.ErrVersion)
	}
	hold(t, "behind all", k, 0, []uint64{1, 2}, want...)
}

func TestPutOfTheGreatest(t *testing.T) {
	k, _ := began(t, open(5))
	key, value := strings.Repeat("k", 64), strings.Repeat("v", 3840)
	does(t, k, put(key, value, 0, 1), 1)
	does(t, k, put(key, value, 1, 1), 2)
	hold(t, "the greatest key and value", k, 0, []uint64{1}, node(key, value, 2, 1))
}

func TestPutOfManyKeys(t *testing.T) {
	k, d := began(t, open(5))
	var want []api.Node
	for i := range 256 {
		n := node("k"+strconv.Itoa(1000+i), strconv.Itoa(i), 1, uint64(i%2))
		does(t, k, put(n.Key, string(n.Value), 0, n.Owner), 1)
		want = append(want, n)
	}
	refuses(t, k, d, put("more", "x", 0, 0), api.ErrMany)
	refuses(t, k, d, put("more", "x", 0, 1), api.ErrMany)
	refuses(t, k, d, put("more", "x", 0, 2), api.ErrExpired)
	refuses(t, k, d, put("more", "x", 1, 1), api.ErrNone)
	refuses(t, k, d, put(want[9].Key, "x", 0, 1), api.ErrExists)
	does(t, k, put(want[9].Key, "x", 1, 1), 2)
	want[9] = node(want[9].Key, "x", 2, want[9].Owner)
	hold(t, "as many keys as there may be", k, 0, []uint64{1}, want...)
	does(t, k, end(1), 0)
	does(t, k, put("more", "x", 0, 0), 1)
	if n := len(k.List("k")); n != 128 {
		t.Errorf("P8.1: behind KClose of a session with 128 keys of 256 there are %d", n)
	}
}

// R2: a session that isn't live is ahead of all; then the tree's errors in their order.
func TestPutAnswersTheFirstError(t *testing.T) {
	k, d := began(t, open(3), put("a", "x", 0, 0), tick(3), open(3))
	for _, id := range []uint64{1, 3, 1 << 32, top} {
		for _, key := range []string{"", "a", "b", strings.Repeat("k", 65)} {
			for _, value := range []string{"", strings.Repeat("v", 3841), strings.Repeat("v", 5000)} {
				for _, want := range []uint64{0, 1, 2, top} {
					refuses(t, k, d, put(key, value, want, id), api.ErrExpired)
				}
			}
		}
	}
	for _, id := range []uint64{0, 2} {
		refuses(t, k, d, put("", strings.Repeat("v", 5000), 5, id), api.ErrName)
		refuses(t, k, d, put("a", strings.Repeat("v", 5000), 0, id), api.ErrLong)
		refuses(t, k, d, put("b", strings.Repeat("v", 5000), 5, id), api.ErrLong)
	}
}

func TestDelete(t *testing.T) {
	k, d := began(t, open(5), put("a", "x", 0, 1), put("a", "y", 1, 1), put("ab", "z", 0, 0), put("b", "w", 0, 1))
	for _, key := range []string{"", "aa", "c", strings.Repeat("k", 65)} {
		for _, want := range []uint64{0, 1, 2, top} {
			refuses(t, k, d, remove(key, want), api.ErrNone)
		}
	}
	for _, want := range []uint64{0, 1, 3, top} {
		refuses(t, k, d, remove("a", want), api.ErrVersion)
	}
	does(t, k, remove("a", 2), 0)
	refuses(t, k, d, remove("a", 2), api.ErrNone)
	hold(t, "behind KDelete", k, 0, []uint64{1}, node("ab", "z", 1, 0), node("b", "w", 1, 1))
	stranger := remove("b", 1)
	stranger.Session = 77 // KDelete doesn't ask for it
	does(t, k, stranger, 0)
	does(t, k, put("a", "new", 0, 0), 1)
	hold(t, "behind KDelete and KPut", k, 0, []uint64{1}, node("a", "new", 1, 0), node("ab", "z", 1, 0))
}

func TestOpenOfSessions(t *testing.T) {
	k, d := began(t)
	for _, life := range []uint64{0, 1<<40 + 1, 1 << 41, top} {
		refuses(t, k, d, open(life), api.ErrTime)
	}
	does(t, k, open(1), 1)
	does(t, k, open(1<<40), 2)
	does(t, k, tick(1), 1, 1)
	for id := uint64(3); id <= 17; id++ {
		does(t, k, open(id), id)
	}
	refuses(t, k, d, open(1), api.ErrMany)
	refuses(t, k, d, open(0), api.ErrTime)
	does(t, k, end(5), 0)
	does(t, k, open(2), 18)
	hold(t, "behind KOpen", k, 1, []uint64{2, 3, 4, 6, 7, 8, 9, 10, 11, 12, 13, 14, 15, 16, 17, 18})
	does(t, k, tick(2), 3, 18)
	does(t, k, tick(1), 4, 3)
	does(t, k, tick(13), 17, 4, 6, 7, 8, 9, 10, 11, 12, 13, 14, 15, 16)
	does(t, k, tick(1<<40-18), 1<<40-1, 17)
	does(t, k, tick(1), 1<<40, 2)
	hold(t, "when all have gone", k, 1<<40, nil)
}

func TestRenew(t *testing.T) {
	k, d := began(t, open(3), open(5), put("a", "x", 0, 1))
	does(t, k, tick(2), 2)
	does(t, k, renew(1), 0)
	does(t, k, tick(2), 4)
	does(t, k, renew(1), 0)
	does(t, k, tick(1), 5, 2)
	for _, id := range []uint64{2, 3, 1<<32 + 1, top} {
		refuses(t, k, d, renew(id), api.ErrExpired)
	}
	refuses(t, k, d, renew(0), api.ErrNone)
	does(t, k, tick(1), 6)
	hold(t, "renewed at 4, to live for 3", k, 6, []uint64{1}, node("a", "x", 1, 1))
	does(t, k, tick(1), 7, 1)
	hold(t, "at its end", k, 7, nil)
	refuses(t, k, d, renew(1), api.ErrExpired)
}

func TestClose(t *testing.T) {
	k, d := began(t, open(3), open(3), put("a", "1", 0, 1), put("b", "2", 0, 2), put("c", "3", 0, 0), put("d", "4", 0, 1), put("b", "5", 1, 1))
	for _, id := range []uint64{0, 3, 1<<32 + 1, top} {
		refuses(t, k, d, end(id), api.ErrNone)
	}
	does(t, k, end(1), 0)
	hold(t, "behind KClose", k, 0, []uint64{2}, node("b", "5", 2, 2), node("c", "3", 1, 0))
	refuses(t, k, d, end(1), api.ErrNone)
	refuses(t, k, d, put("a", "1", 0, 1), api.ErrExpired)
	does(t, k, end(2), 0)
	hold(t, "behind both", k, 0, nil, node("c", "3", 1, 0))
	does(t, k, tick(9), 9) // those that were closed don't go again
	does(t, k, open(1), 3)
}

func TestTick(t *testing.T) {
	k, _ := began(t, open(4), open(2), open(4), open(6), put("a", "", 0, 1), put("b", "", 0, 2), put("c", "", 0, 3), put("d", "", 0, 4), put("e", "", 0, 0))
	does(t, k, tick(1), 1)
	does(t, k, tick(0), 1)
	hold(t, "when none has gone", k, 1, []uint64{1, 2, 3, 4}, node("a", "", 1, 1), node("b", "", 1, 2), node("c", "", 1, 3), node("d", "", 1, 4), node("e", "", 1, 0))
	does(t, k, tick(1), 2, 2)
	does(t, k, tick(1), 3)
	hold(t, "when one has gone", k, 3, []uint64{1, 3, 4}, node("a", "", 1, 1), node("c", "", 1, 3), node("d", "", 1, 4), node("e", "", 1, 0))
	does(t, k, tick(1), 4, 1, 3)
	does(t, k, tick(100), 104, 4)
	does(t, k, tick(0), 104)
	hold(t, "when all have gone", k, 104, nil, node("e", "", 1, 0))
}

func TestTickToTheEndOfTime(t *testing.T) {
	for _, from := range []uint64{0, 1, 1 << 20, 1<<40 - 1, 1 << 40} {
		for _, ticks := range []uint64{0, 1, 2, 1 << 20, 1<<40 - 1, 1 << 40, 1<<40 + 1, 1 << 63, top - 1<<40, top - 1, top} {
			k, _ := began(t, open(1), tick(from))
			want := min(from+min(ticks, 1<<40), 1<<40)
			if from == 0 && ticks > 0 {
				does(t, k, tick(ticks), want, 1)
			} else {
				does(t, k, tick(ticks), want)
			}
			if k.Now() != want {
				t.Errorf("P8.1: KTick of %d at %d: Now: %d, want %d", ticks, from, k.Now(), want)
			}
		}
	}
	k, d := began(t, tick(top), open(1), put("a", "x", 0, 1))
	does(t, k, tick(top), 1<<40) // the session would end behind the end of time
	hold(t, "at the end of time", k, 1<<40, []uint64{1}, node("a", "x", 1, 1))
	does(t, k, renew(1), 0)
	refuses(t, k, d, open(0), api.ErrTime)
	does(t, k, end(1), 0)
	hold(t, "at the end of time, behind KClose", k, 1<<40, nil)
}

func TestOtherKinds(t *testing.T) {
	k, d := began(t, open(3), put("a", "x", 0, 1))
	for kind := range 256 {
		if kind >= 1 && kind <= 7 {
			continue
		}
		refuses(t, k, d, api.Cmd{Kind: api.CmdKind(kind)}, api.ErrKind)
		refuses(t, k, d, api.Cmd{Kind: api.CmdKind(kind), Key: "a", Want: 1, Session: 9, Ticks: 1, Value: make([]byte, 5000)}, api.ErrKind)
	}
}

func TestGetAndList(t *testing.T) {
	k, _ := began(t)
	keys := []string{"\x00", "a", "a/", "a/1", "a/2", "a0", "b", "é", "\xff", "\xff\xff"}
	for i := range keys {
		key := keys[i*7%len(keys)] // from all sides
		does(t, k, put(key, key+key, 0, 0), 1)
	}
	for _, prefix := range append([]string{"", "a/3", "c", "\xc3", strings.Repeat("a", 65)}, keys...) {
		var want []api.Node
		for _, key := range keys {
			if strings.HasPrefix(key, prefix) {
				want = append(want, node(key, key+key, 1, 0))
			}
		}
		if l := k.List(prefix); !slices.EqualFunc(l, want, same) {
			t.Errorf("P8.3: List(%.20q): %v, want %v", prefix, l, want)
		}
		n, ok := k.Get(prefix)
		if there := slices.Contains(keys, prefix); ok != there || there && !same(n, want[0]) || !there && !same(n, api.Node{}) {
			t.Errorf("P8.3, R3: Get(%.20q): %v, %v", prefix, n, ok)
		}
	}
}

func TestLive(t *testing.T) {
	k, _ := began(t, open(2), open(1))
	for now := range uint64(4) {
		for id, want := range map[uint64]bool{0: false, 1: now < 2, 2: now < 1, 3: false, 1<<32 + 1: false, top: false} {
			if got := k.Live(id); got != want {
				t.Errorf("P8.3: Live(%d) at %d: %v", id, now, got)
			}
		}
		k.Do(tick(1))
	}
}

func TestNilKeeper(t *testing.T) {
	var k *meta.Keeper
	for kind := range api.CmdKind(9) {
		if n, gone, e := k.Do(api.Cmd{Kind: kind, Key: "a", Ticks: 1}); n != 0 || len(gone) != 0 || e != api.ErrNil {
			t.Errorf("R7: Do of kind %d of a nil keeper: %d, %v, error %d", kind, n, gone, e)
		}
	}
	for _, key := range []string{"", "a"} {
		if n, ok := k.Get(key); ok || !same(n, api.Node{}) {
			t.Errorf("R7: Get of a nil keeper: %v, %v", n, ok)
		}
		if l := k.List(key); len(l) != 0 {
			t.Errorf("R7: List of a nil keeper: %v", l)
		}
	}
	for _, id := range []uint64{0, 1, top} {
		if k.Live(id) {
			t.Errorf("R7: Live(%d) of a nil keeper: true", id)
		}
	}
	if n := k.Now(); n != 0 {
		t.Errorf("R7: Now of a nil keeper: %d", n)
	}
}

// P1: a zero keeper has nothing, not even a disk.
func TestZeroKeeper(t *testing.T) {
	k := &meta.Keeper{}
	for _, c := range []api.Cmd{put("a", "x", 0, 0), open(5), tick(1), snap()} {
		if n, gone, e := k.Do(c); n != 0 || len(gone) != 0 || e != api.ErrNil {
			t.Errorf("R7: %s of a zero keeper: %d, %v, error %d", said(c), n, gone, e)
		}
	}
	for c, code := range map[api.CmdKind]api.Errno{0: api.ErrKind, 1: api.ErrName, 2: api.ErrNone, 3: api.ErrTime, 4: api.ErrNone, 5: api.ErrNone, 8: api.ErrKind} {
		if n, gone, e := k.Do(api.Cmd{Kind: c}); n != 0 || len(gone) != 0 || e != code {
			t.Errorf("P8.1: kind %d of a zero keeper: %d, %v, error %d; want error %d", c, n, gone, e, code)
		}
	}
	hold(t, "R4: a zero keeper", k, 0, nil)
}

func TestWhatIsHandedInIsLeftAlone(t *testing.T) {
	whole := []byte("ahead, the bytes, and spare room")
	before, part := bytes.Clone(whole), whole[7:16]
	k, d := began(t)
	does(t, k, api.Cmd{Kind: api.KPut, Key: "a", Value: part}, 1)
	does(t, k, api.Cmd{Kind: api.KPut, Key: "b", Value: part}, 1)
	does(t, k, put("a", "more", 1, 0), 2)
	if !bytes.Equal(whole, before) {
		t.Errorf("R6: what was handed in, or room around it, was changed: %q", whole)
	}
	b := string(d.Bytes())
	copy(part, "scribbled")
	hold(t, "R6: behind scribbles in what was handed in", k, 0, nil, node("a", "more", 2, 0), node("b", "the bytes", 1, 0))
	holdDisk(t, "R6: behind scribbles in what was handed in", d, b)
}

func TestAnswersAreNewMemory(t *testing.T) {
	k, _ := began(t, open(2), open(2), put("a", "abc", 0, 0), put("b", "def", 0, 0))
	scribble := func(n api.Node) {
		b := n.Value[:cap(n.Value)]
		for i := range b {
			b[i] = 'x'
		}
	}
	l := k.List("")
	scribble(l[0])
	if string(l[1].Value) != "def" {
		t.Errorf("R6: two nodes of an answer share memory: %q", l[1].Value)
	}
	scribble(l[1])
	n, _ := k.Get("a")
	scribble(n)
	hold(t, "R6: behind scribbles in answers", k, 0, []uint64{1, 2}, node("a", "abc", 1, 0), node("b", "def", 1, 0))
	_, gone, _ := k.Do(tick(2))
	gone = append(gone[:0], 77, 78)
	does(t, k, open(5), 3)
	does(t, k, tick(5), 7, 3)
	if !slices.Equal(gone, []uint64{77, 78}) {
		t.Errorf("R6: an answer goes with its keeper: %v", gone)
	}
}

func TestKeepersAreNotInOneAnothersWay(t *testing.T) {
	one, d := began(t)
	other, f := began(t)
	does(t, one, open(5), 1)
	does(t, one, put("a", "x", 0, 1), 1)
	does(t, one, tick(1), 1)
	hold(t, "R8: the other keeper", other, 0, nil)
	holdDisk(t, "R8: the other keeper", f, "")
	does(t, other, open(9), 1)
	does(t, other, tick(8), 8)
	hold(t, "R8: the one keeper", one, 1, []uint64{1}, node("a", "x", 1, 1))
	holdDisk(t, "R8: the one keeper", d, frames(command(3, "", "", 0, 0, 5), command(1, "a", "x", 0, 1, 0), command(6, "", "", 0, 0, 1)))
}
