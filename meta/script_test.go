package meta_test

import (
	"math/rand"
	"slices"
	"strconv"
	"strings"
	"testing"

	"mailcoach/api"
	"mailcoach/disk"
	"mailcoach/meta"
)

// holdPlain: all that a keeper tells of its state, and its disk, against a plain one.
func holdPlain(t *testing.T, what string, k *meta.Keeper, d *disk.Disk, p *plain) {
	t.Helper()
	var live []uint64
	for id := range uint64(40) {
		if p.live(id) {
			live = append(live, id)
		}
	}
	hold(t, what, k, p.now, live, p.list("")...)
	holdDisk(t, what, d, p.disk)
}

// step: a command to both, and its answers.
func step(t *testing.T, what string, k *meta.Keeper, p *plain, c api.Cmd) {
	t.Helper()
	n, gone, e := k.Do(c)
	wantN, wantGone, wantE := p.do(c)
	if n != wantN || !slices.Equal(gone, wantGone) || e != wantE {
		t.Fatalf("P8.1: behind %s, %s: %d, %v, error %d; want %d, %v, error %d", what, said(c), n, gone, e, wantN, wantGone, wantE)
	}
}

// names: of a script's last commands.
func names(script []api.Cmd) string {
	var l []string
	for _, c := range script[max(0, len(script)-6):] {
		l = append(l, said(c))
	}
	return strings.Join(l, "; ")
}

// fallen: a keeper that is opened behind a crash of its disk, against the plain one that saw none.
func fallen(t *testing.T, what string, d *disk.Disk, keep, bit int, p *plain) *meta.Keeper {
	t.Helper()
	d.Crash(keep, bit)
	k := keeper(t, d)
	holdPlain(t, "P8.4: opened behind Crash("+strconv.Itoa(keep)+", "+strconv.Itoa(bit)+") behind "+what, k, d, p)
	return k
}

func TestAllShortScripts(t *testing.T) {
	steps := []api.Cmd{
		open(1), open(3), put("a", "1", 0, 0), put("a", "2", 0, 1), put("a", "3", 1, 2), put("ab", "", 0, 1),
		remove("a", 1), remove("a", 2), renew(1), end(1), tick(1), tick(2), snap(), {},
	}
	const length = 4
	var script [length]api.Cmd
	for n := range 14 * 14 * 14 * 14 { // fourteen commands at four places
		for i := range script {
			script[i] = steps[n%len(steps)]
			n /= len(steps)
		}
		d, p := fresh(t, 500), newPlain(500)
		k := keeper(t, d)
		for i, c := range script {
			step(t, names(script[:i]), k, p, c)
		}
		holdPlain(t, names(script[:]), k, d, p)
		k = fallen(t, names(script[:]), d, n%50, n%9-1, p)
		step(t, names(script[:]), k, p, snap()) // tells the sessions, and the last number
		holdDisk(t, "P8.1: KSnap behind "+names(script[:]), d, p.disk)
	}
}

func TestEachCrash(t *testing.T) {
	script, _ := all()
	script = append(script, snap(), put("c", "z", 0, 2), tick(20))
	for i := range len(script) + 1 {
		for _, keep := range []int{-1, 0, 1, 7, 30, 1 << 30} {
			for bit := -1; bit <= 8; bit++ {
				d, p := fresh(t, 2000), newPlain(2000)
				k := keeper(t, d)
				for _, c := range script[:i] {
					step(t, "the script", k, p, c)
				}
				k = fallen(t, names(script[:i]), d, keep, bit, p)
				for _, c := range script[i:] {
					step(t, "the crash", k, p, c)
				}
				holdPlain(t, "the crash, and the rest of the script", k, d, p)
			}
		}
	}
}

// pick: a command that random picks; the greatest values have so many bytes.
func pick(random *rand.Rand, p *plain, great int) api.Cmd {
	keys := []string{"a", "b", "a/1", "a/2", "\x00", "\xff", "", strings.Repeat("k", 64), strings.Repeat("k", 65)}
	c := api.Cmd{Kind: api.CmdKind(random.Intn(9)), Key: keys[random.Intn(len(keys))], Want: uint64(random.Intn(4))}
	if n, ok := p.nodes[c.Key]; ok && random.Intn(3) > 0 {
		c.Want = n.Version
	}
	if random.Intn(4) > 0 {
		c.Session = p.last - min(p.last, uint64(random.Intn(8)))
	}
	c.Ticks = uint64(random.Intn(30))
	if c.Kind == api.KTick {
		c.Ticks /= 8
	}
	c.Value = make([]byte, random.Intn(5))
	if random.Intn(8) == 0 {
		c.Value = make([]byte, random.Intn(great+1))
	}
	random.Read(c.Value)
	if random.Intn(200) == 0 {
		c.Ticks = random.Uint64() >> random.Intn(64)
	}
	return c
}

func TestLongScripts(t *testing.T) {
	random := rand.New(rand.NewSource(1))
	for round := range 200 {
		room, great := random.Intn(40000), 40
		if round%2 == 0 {
			room, great = 1<<20, 5000
		}
		d, p := fresh(t, room), newPlain(room)
		k := keeper(t, d)
		var script []api.Cmd
		for range 150 {
			c := pick(random, p, great)
			step(t, names(script), k, p, c)
			script = append(script, c)
			holdPlain(t, names(script), k, d, p)
			if random.Intn(20) == 0 {
				k = fallen(t, names(script), d, random.Intn(60)-5, random.Intn(12)-2, p)
			}
		}
	}
}

func TestAFullDisk(t *testing.T) {
	script, records := all()
	for i, c := range script {
		size := len(frames(records[:i+1]...))
		for _, room := range []int{size - 1, size - 8, size - len(frames(records[i])), size} {
			d := fresh(t, room)
			k := keeper(t, d)
			for _, ahead := range script[:i] {
				k.Do(ahead)
			}
			if room < size {
				refuses(t, k, d, c, api.ErrFull)
				refuses(t, k, d, api.Cmd{}, api.ErrKind)
				refuses(t, k, d, open(0), api.ErrTime)
				refuses(t, k, d, put("", "", 0, 0), api.ErrName)
				refuses(t, k, d, remove("z", 1), api.ErrNone)
				refuses(t, k, d, renew(99), api.ErrExpired)
				refuses(t, k, d, end(99), api.ErrNone)
				refuses(t, k, d, c, api.ErrFull)
				c.Kind, c.Key = api.KTick, strings.Repeat("k", 5000)
				refuses(t, k, d, c, api.ErrLong) // R2: a frame's error is ahead of the disk's
				c = script[i]
			} else if _, _, e := k.Do(c); e != api.OK {
				t.Errorf("P8.1: %s, which just fits: error %d", said(c), e)
			}
			again := keeper(t, d)
			hold(t, "P8.4: opened on a full disk", again, k.Now(), live(k), k.List("")...)
		}
	}
}

func TestSnapOnAFullDisk(t *testing.T) {
	script := []api.Cmd{open(9), put("a", "x", 0, 1), tick(3)}
	b := frames(command(3, "", "", 0, 0, 9), command(1, "a", "x", 0, 1, 0), command(6, "", "", 0, 0, 3))
	body := snapshot(3, 1, []api.Session{session(1, 9, 9)}, []api.Node{node("a", "x", 1, 1)})
	for more := range 8 + len(body) + 1 {
		d := fresh(t, len(b)+more)
		k := keeper(t, d)
		for _, c := range script {
			k.Do(c)
		}
		if more < 8+len(body) {
			refuses(t, k, d, snap(), api.ErrFull)
			hold(t, "P8.4: opened on a full disk", keeper(t, d), 3, []uint64{1}, node("a", "x", 1, 1))
			continue
		}
		does(t, k, snap(), 0)
		holdDisk(t, "P8.1: a KSnap that just fits", d, b+frames(body))
		hold(t, "P8.4: opened behind a KSnap that just fits", keeper(t, d), 3, []uint64{1}, node("a", "x", 1, 1))
	}
}

func TestTheGreatestDisk(t *testing.T) {
	d := fresh(t, api.MaxDisk)
	k := keeper(t, d)
	count := uint64(0)
	for {
		n, _, e := k.Do(tick(1))
		if e != api.OK {
			refuses(t, k, d, tick(1), api.ErrFull)
			break
		}
		count++
		if n != count {
			t.Fatalf("P8.1: KTick: %d, want %d", n, count)
		}
	}
	if want := uint64(api.MaxDisk / 41); count != want || k.Now() != want {
		t.Errorf("P8.1: on the greatest disk there fit %d ticks, want %d; Now: %d", count, want, k.Now())
	}
	hold(t, "P8.4: opened on the greatest disk", keeper(t, d), count, nil)
}

func TestTheSameCommandsAreAnsweredTheSame(t *testing.T) {
	random := rand.New(rand.NewSource(2))
	used, p := keeper(t, fresh(t, 1<<24)), newPlain(1<<24)
	for range 300 { // a keeper that once had others is as good as another one
		c := pick(random, p, 40)
		step(t, "others", used, p, c)
	}
	step(t, "others", used, p, snap())
	records := snapshot(p.now, p.last, p.openSessions(), p.list(""))
	other, _ := opened(t, records)
	for range 300 {
		c := pick(random, p, 40)
		n, gone, e := used.Do(c)
		m, went, f := other.Do(c)
		p.do(c)
		if n != m || !slices.Equal(gone, went) || e != f || !slices.EqualFunc(used.List(""), other.List(""), same) || used.Now() != other.Now() {
			t.Fatalf("R8: %s: %d, %v, error %d, and elsewhere %d, %v, error %d", said(c), n, gone, e, m, went, f)
		}
	}
}
