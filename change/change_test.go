package change

import (
	"maps"
	"math/rand"
	"slices"
	"strings"
	"testing"

	"gaoler/api"
	"gaoler/build"
	"gaoler/files"
	"gaoler/node"
	"gaoler/sys"
	"gaoler/table"
)

// nodes is a table's nodes, by their numbers.
type nodes map[int]node.Node

func dir(ents ...node.Ent) node.Node {
	return node.Node{Kind: api.Dir, Mode: 0o755, Uid: 1, Gid: 2, Ents: ents}
}

func file(data string) node.Node {
	return node.Node{Kind: api.File, Mode: 0o644, Uid: 1, Gid: 2, Data: []byte(data)}
}

func link(target string) node.Node {
	return node.Node{Kind: api.Link, Mode: 511, Uid: 1, Gid: 2, Target: target}
}

func ent(name string, id int) node.Ent { return node.Ent{Name: name, Node: id} }

// tableOf is a table of some nodes, which needn't be a tree.
func tableOf(t *testing.T, room int, l nodes) *table.Table {
	t.Helper()
	x := table.New(room)
	for range room {
		x.Add(file(""))
	}
	for i := 1; i <= room; i++ {
		n, is := l[i]
		if !is {
			x.Drop(i)
			continue
		}
		if err := x.Put(i, n); err != api.OK {
			t.Fatalf("node %d may not be: %v", i, n)
		}
	}
	if x.Used() != len(l) {
		t.Fatalf("%d of %d nodes", x.Used(), len(l))
	}
	return x
}

func nodesOf(x *table.Table) nodes {
	l := nodes{}
	for i := 1; i <= api.CapMax; i++ {
		if n, is := x.Get(i); is {
			l[i] = n
		}
	}
	return l
}

// with is some nodes, of which one is another one, or is there, too.
func (l nodes) with(i int, n node.Node) nodes {
	l = maps.Clone(l)
	l[i] = n
	return l
}

// without is some nodes but those of some numbers.
func (l nodes) without(numbers ...int) nodes {
	l = maps.Clone(l)
	for _, i := range numbers {
		delete(l, i)
	}
	return l
}

// more is some nodes, of which a directory has one entry more, in the place of the one of that name, if there is one.
func (l nodes) more(i int, name string, id int) nodes {
	n := l.less(i, name)[i]
	n.Ents = append(slices.Clone(n.Ents), ent(name, id))
	slices.SortFunc(n.Ents, func(a, b node.Ent) int { return strings.Compare(a.Name, b.Name) })
	return l.with(i, n)
}

// less is some nodes, of which a directory has no entry of a name.
func (l nodes) less(i int, name string) nodes {
	n := l[i]
	n.Ents = slices.DeleteFunc(slices.Clone(n.Ents), func(e node.Ent) bool { return e.Name == name })
	return l.with(i, n)
}

// set is some nodes, of which one has another mode, owner and group, each of which stays as it is, if it is -1.
func (l nodes) set(i, mode, uid, gid int) nodes {
	n := l[i]
	for _, x := range []struct {
		field *int
		to    int
	}{{&n.Mode, mode}, {&n.Uid, uid}, {&n.Gid, gid}} {
		if x.to >= 0 {
			*x.field = x.to
		}
	}
	return l.with(i, n)
}

// sample is a tree: d, d/e, d/g, d/h, e, f, l and s; d/h and f are one node.
func sample() nodes {
	return nodes{
		1: dir(ent("d", 2), ent("e", 7), ent("f", 3), ent("l", 5), ent("s", 8)),
		2: dir(ent("e", 6), ent("g", 4), ent("h", 3)),
		3: file("f"),
		4: file("g"),
		5: link("d"),
		6: dir(),
		7: dir(),
		8: file("s"),
	}
}

// wantOf asks what became of nodes; how much room there is plays no part.
func wantOf(t *testing.T, before, after nodes, want Change) {
	t.Helper()
	for _, room := range [][2]int{{12, 12}, {12, 24}, {24, 12}} {
		a, b := tableOf(t, room[0], before), tableOf(t, room[1], after)
		if got := Of(a, b); got != want {
			t.Errorf("%v, want %v: %v, of %v", got, want, after, before)
		}
		if !a.Same(tableOf(t, 24, before)) || !b.Same(tableOf(t, 24, after)) {
			t.Errorf("what is handed in is changed: %v, of %v", after, before)
		}
	}
}

// wantEach asks for a kind of change of the sample, in each of which all else is zero.
func wantEach(t *testing.T, l map[string]nodes, want Change) {
	t.Helper()
	for name, after := range l {
		t.Run(name, func(t *testing.T) { wantOf(t, sample(), after, want) })
	}
}

func TestNumbersOfKinds(t *testing.T) {
	for want, kind := range []int{None, Attr, Data, Make, Take, Move, Free, Many} {
		if kind != want {
			t.Errorf("a kind is %d, want %d", kind, want)
		}
	}
	if (Change{}).Kind != None {
		t.Error("a zero change isn't none")
	}
}

func TestChapterExamples(t *testing.T) {
	x := table.New(9)
	x.Add(dir(ent("a", 2)))
	x.Add(file(""))
	s := sys.New(x, 0o022, api.Cred{})
	before := s.Table()
	s.Do(0, sys.Call{Kind: sys.Mkdir, Path: "x", A: 0o777})
	between := s.Table()
	if got, want := Of(before, between), (Change{Kind: Make, Node: 3, Dir: 1, Name: "x"}); got != want {
		t.Errorf("%v, want %v", got, want)
	}
	s.Do(0, sys.Call{Kind: sys.Rename, Path: "x", Other: "y"})
	if got, want := Of(between, s.Table()), (Change{Kind: Move, Node: 3, Dir: 1, Name: "x", To: 1, Other: "y"}); got != want {
		t.Errorf("%v, want %v", got, want)
	}
	// Both as one change.
	if got, want := Of(before, s.Table()), (Change{Kind: Make, Node: 3, Dir: 1, Name: "y"}); got != want {
		t.Errorf("%v, want %v", got, want)
	}
}

// P18.1, kind by kind

func TestNone(t *testing.T) {
	wantOf(t, sample(), sample(), Change{})
	wantOf(t, nodes{}, nodes{}, Change{})
	for i, n := range sample() {
		wantOf(t, nodes{i: n}, nodes{i: n}, Change{})
	}
	// Nil and empty lists are one.
	n := dir()
	n.Data, n.Ents = []byte{}, []node.Ent{}
	wantOf(t, sample(), sample().with(6, n), Change{})
	n = link("d")
	n.Data, n.Ents = []byte{}, []node.Ent{}
	wantOf(t, sample(), sample().with(5, n), Change{})
	x := tableOf(t, 12, sample())
	if got := Of(x, x); got != (Change{}) {
		t.Error(got)
	}
	if got := Of(x, x.Clone()); got != (Change{}) {
		t.Error(got)
	}
}

func TestAttr(t *testing.T) {
	for i, n := range sample() {
		want := Change{Kind: Attr, Node: i}
		for mask := 1; mask < 8; mask++ {
			mode, uid, gid := -1, -1, -1
			if mask&1 != 0 && n.Kind != api.Link {
				mode = 0o4711
			}
			if mask&2 != 0 {
				uid = 0
			}
			if mask&4 != 0 {
				gid = 65535
			}
			if mode < 0 && uid < 0 && gid < 0 {
				continue
			}
			wantOf(t, sample(), sample().set(i, mode, uid, gid), want)
			wantOf(t, sample().set(i, mode, uid, gid), sample(), want)
			wantOf(t, nodes{i: n}, nodes{i: n}.set(i, mode, uid, gid), want)
		}
	}
	// A mode alone is no Data, of each bit.
	for bit := range 12 {
		wantOf(t, sample(), sample().set(3, 0o644^1<<bit, -1, -1), Change{Kind: Attr, Node: 3})
		wantOf(t, sample(), sample().set(2, 0o755^1<<bit, -1, -1), Change{Kind: Attr, Node: 2})
	}
}

func TestAttrAndMore(t *testing.T) {
	l := sample()
	wantEach(t, map[string]nodes{
		"two files":          l.set(3, 0, -1, -1).set(4, 0, -1, -1),
		"two directories":    l.set(1, 0, -1, -1).set(6, -1, 5, -1),
		"a node of none":     l.set(3, 0, -1, -1).with(9, file("")),
		"a node gone":        l.set(3, 0, -1, -1).without(4),
		"the other node":     l.set(3, 0, -1, -1).more(2, "n", 3),
		"the other dir":      l.set(1, 0, -1, -1).less(2, "g"),
		"made":               l.set(3, 0, -1, -1).more(2, "n", 9).with(9, file("")),
		"taken":              l.set(3, 0, -1, -1).less(2, "h"),
		"moved":              l.set(3, 0, -1, -1).less(2, "h").more(2, "n", 3),
		"dir, an entry more": l.set(2, 0, -1, -1).more(2, "n", 3),
		"dir, an entry less": l.set(2, -1, 9, -1).less(2, "g"),
		"dir, another entry": l.set(2, -1, -1, 9).less(2, "g").more(2, "n", 4),
		"dir, another node":  l.set(2, -1, -1, 9).more(2, "g", 3),
		"a link's target":    l.with(5, link("f")).set(5, -1, 9, -1),
		"a file, a dir":      l.with(4, file("g")).with(8, node.Node{Kind: api.Dir, Mode: 0o644, Uid: 1, Gid: 2}),
		"a dir, a file":      l.with(6, node.Node{Kind: api.File, Mode: 0o755, Uid: 1, Gid: 2}),
		"a dir, a link":      l.with(6, link("d")),
		"a link, a file":     l.with(5, node.Node{Kind: api.File, Mode: 511, Uid: 1, Gid: 2}),
		"a link, a dir":      l.with(5, node.Node{Kind: api.Dir, Mode: 511, Uid: 1, Gid: 2}),
	}, Change{Kind: Many})
	// Of nodes that differ in nothing but their Kind.
	a, b := node.Node{Kind: api.File, Mode: 511}, node.Node{Kind: api.Dir, Mode: 511}
	wantOf(t, nodes{1: a}, nodes{1: b}, Change{Kind: Many})
	wantOf(t, nodes{1: b}, nodes{1: a}, Change{Kind: Many})
}

func TestData(t *testing.T) {
	want := Change{Kind: Data, Node: 3}
	for _, data := range []string{"", "g", "F", "ff", "f\x00", strings.Repeat("f", 48)} {
		for _, mode := range []int{-1, 0, 0o6777, 4095} {
			after := sample().with(3, file(data)).set(3, mode, -1, -1)
			wantOf(t, sample(), after, want)
			wantOf(t, after, sample(), want)
			wantOf(t, nodes{3: sample()[3]}, nodes{3: after[3]}, want)
		}
	}
	wantOf(t, sample(), sample().with(8, file("")), Change{Kind: Data, Node: 8})
}

func TestDataAndMore(t *testing.T) {
	l := sample()
	cut := l.with(3, file(""))
	wantEach(t, map[string]nodes{
		"an owner":         cut.set(3, -1, 2, -1),
		"a group":          cut.set(3, -1, -1, 3),
		"all":              cut.set(3, 0, 2, 3),
		"two files":        cut.with(4, file("")),
		"a mode":           cut.set(4, 0, -1, -1),
		"a dir's mode":     cut.set(1, 0, -1, -1),
		"a node of none":   cut.with(9, file("")),
		"a node gone":      cut.without(4),
		"the other dir":    cut.more(2, "n", 3),
		"made":             cut.more(2, "n", 9).with(9, file("")),
		"taken":            cut.less(2, "h"),
		"moved":            cut.less(2, "h").more(2, "n", 3),
		"a link's target":  l.with(5, link("f")),
		"a longer target":  l.with(5, link("d/g")),
		"a file, a link":   l.with(3, node.Node{Kind: api.Link, Mode: 511, Uid: 1, Gid: 2, Target: "f"}),
		"a file, a dir":    l.with(3, dir()),
		"a dir, a file":    l.with(6, file("f")),
		"a link, a file":   l.with(5, file("d")),
		"an entry's dir":   l.with(2, file("f")),
		"a dir of entries": l.with(3, dir(ent("x", 4))),
	}, Change{Kind: Many})
}

func TestMake(t *testing.T) {
	for _, at := range []int{1, 2, 6} {
		for _, i := range []int{9, 10, 12} {
			for _, n := range []node.Node{
				file(""), file("data"), dir(), link("d"), dir(ent("x", 4), ent("y", 11)), dir(ent("x", i)),
			} {
				for _, name := range []string{"n", "a", "z", "nnnnnnnnnnnn", "d2"} {
					wantOf(t, sample(), sample().more(at, name, i).with(i, n), Change{Kind: Make, Node: i, Dir: at, Name: name})
				}
			}
		}
	}
	// The number is one that has no node, not the next one of all.
	gap := sample().less(2, "g").without(4)
	wantOf(t, gap, gap.more(6, "n", 4).with(4, file("")), Change{Kind: Make, Node: 4, Dir: 6, Name: "n"})
	gap = nodes{2: dir()}
	wantOf(t, gap, gap.more(2, "n", 1).with(1, file("")), Change{Kind: Make, Node: 1, Dir: 2, Name: "n"})
	// An entry that had the number ahead of it isn't won.
	early := sample().more(2, "n", 9)
	wantOf(t, early, early.more(1, "x", 9).with(9, file("")), Change{Kind: Make, Node: 9, Dir: 1, Name: "x"})
	wantOf(t, early, early.with(9, file("")), Change{Kind: Many})
}

func TestMakeAndMore(t *testing.T) {
	l := sample().with(9, file(""))
	made := l.more(2, "n", 9)
	wantEach(t, map[string]nodes{
		"no entry":           l,
		"of another node":    l.more(2, "n", 3),
		"of no node":         l.more(2, "n", 10),
		"two entries":        made.more(2, "o", 9),
		"in two directories": made.more(1, "n", 9),
		"one of another":     made.more(2, "o", 3),
		"two nodes":          made.with(10, file("")),
		"two nodes, told":    made.with(10, file("")).more(1, "n", 10),
		"an entry lost":      made.less(2, "g"),
		"lost elsewhere":     made.less(1, "s"),
		"in another's place": l.more(2, "g", 9),
		"another one moved":  made.less(1, "f").more(1, "n", 3),
		"another one gone":   made.without(8),
		"taken":              made.less(1, "s").without(8),
		"the replaced gone":  l.more(2, "g", 9).without(4),
		"a mode":             made.set(3, 0, -1, -1),
		"its dir's mode":     made.set(2, 0, -1, -1),
		"data":               made.with(3, file("")),
		"just in itself":     sample().with(9, dir(ent("n", 9))),
		"just in a new dir":  sample().with(9, file("")).with(10, dir(ent("n", 9))),
		"in a new dir, told": sample().with(9, file("")).with(10, dir(ent("n", 9))).more(1, "n", 10),
		"no new one":         sample().more(2, "n", 3),
		"no node of it":      sample().more(2, "n", 9),
	}, Change{Kind: Many})
}

func TestTake(t *testing.T) {
	for at, n := range sample() {
		for _, e := range n.Ents {
			want := Change{Kind: Take, Node: e.Node, Dir: at, Name: e.Name}
			wantOf(t, sample(), sample().less(at, e.Name), want)
			// What is gone may have entries; those aren't lost.
			wantOf(t, sample(), sample().less(at, e.Name).without(e.Node), want)
		}
	}
	// An entry of what isn't there.
	early := sample().more(2, "n", 9).more(6, "o", 65535)
	wantOf(t, early, early.less(2, "n"), Change{Kind: Take, Node: 9, Dir: 2, Name: "n"})
	wantOf(t, early, early.less(6, "o"), Change{Kind: Take, Node: 65535, Dir: 6, Name: "o"})
	// Of itself, and of a directory in a ring.
	ring := nodes{1: dir(ent("a", 1), ent("b", 2)), 2: dir(ent("c", 1))}
	wantOf(t, ring, ring.less(1, "a"), Change{Kind: Take, Node: 1, Dir: 1, Name: "a"})
	wantOf(t, ring, ring.less(2, "c"), Change{Kind: Take, Node: 1, Dir: 2, Name: "c"})
	wantOf(t, ring, ring.less(2, "c").without(1), Change{Kind: Take, Node: 1, Dir: 2, Name: "c"})
}

func TestTakeAndMore(t *testing.T) {
	l := sample().less(2, "g")
	early := sample().more(2, "n", 9)
	wantEach(t, map[string]nodes{
		"another one gone":    l.without(3),
		"both gone":           l.without(3, 4),
		"its directory gone":  l.less(1, "d").without(2, 4),
		"two entries":         l.less(2, "h"),
		"in two directories":  l.less(1, "s"),
		"all of one node":     sample().less(1, "f").less(2, "h"),
		"both of one gone":    sample().less(1, "f").less(2, "h").without(3),
		"two, both gone":      l.less(1, "s").without(4, 8),
		"one of another won":  l.more(1, "n", 3),
		"another in place":    sample().more(2, "g", 3),
		"in place, gone":      sample().more(2, "g", 3).without(4),
		"in place, of none":   sample().more(2, "g", 12),
		"a node of none":      l.with(9, file("")),
		"a mode":              l.set(4, 0, -1, -1),
		"its dir's mode":      l.set(2, 0, -1, -1),
		"another dir's owner": l.set(6, -1, 0, -1),
		"data":                l.with(4, file("")),
	}, Change{Kind: Many})
	wantOf(t, early, early.less(2, "n").without(4), Change{Kind: Many})
	wantOf(t, early, early.less(2, "n").with(9, file("")), Change{Kind: Many})
}

func TestMove(t *testing.T) {
	for at, n := range sample() {
		for _, e := range n.Ents {
			for _, to := range []int{1, 2, 6, 7} {
				for _, other := range []string{"a", "z", "n"} {
					wantOf(t, sample(), sample().less(at, e.Name).more(to, other, e.Node), Change{Kind: Move, Node: e.Node, Dir: at, Name: e.Name, To: to, Other: other})
				}
			}
		}
	}
	// The same name in another directory.
	wantOf(t, sample(), sample().less(2, "g").more(6, "g", 4), Change{Kind: Move, Node: 4, Dir: 2, Name: "g", To: 6, Other: "g"})
	// Of what isn't there.
	early := sample().more(2, "n", 9)
	wantOf(t, early, early.less(2, "n").more(1, "n", 9), Change{Kind: Move, Node: 9, Dir: 2, Name: "n", To: 1, Other: "n"})
	// Of itself.
	ring := nodes{1: dir(ent("a", 1), ent("b", 2)), 2: dir(ent("c", 1))}
	wantOf(t, ring, ring.less(1, "a").more(2, "a", 1), Change{Kind: Move, Node: 1, Dir: 1, Name: "a", To: 2, Other: "a"})
}

func TestMoveOver(t *testing.T) {
	for at, n := range sample() {
		for _, e := range n.Ents {
			for to, m := range sample() {
				for _, over := range m.Ents {
					if e.Node == over.Node {
						continue
					}
					after := sample().less(at, e.Name).more(to, over.Name, e.Node)
					want := Change{Kind: Move, Node: e.Node, Dir: at, Name: e.Name, To: to, Other: over.Name, Over: over.Node}
					wantOf(t, sample(), after, want)
					if over.Node != at && over.Node != to {
						wantOf(t, sample(), after.without(over.Node), want)
					}
				}
			}
		}
	}
	// In the place of what isn't there, or of what doesn't.
	early := sample().more(2, "n", 9)
	wantOf(t, early, early.less(1, "s").more(2, "n", 8), Change{Kind: Move, Node: 8, Dir: 1, Name: "s", To: 2, Other: "n", Over: 9})
	wantOf(t, early, early.less(2, "n").more(1, "s", 9), Change{Kind: Move, Node: 9, Dir: 2, Name: "n", To: 1, Other: "s", Over: 8})
	wantOf(t, early, early.less(2, "n").more(1, "s", 9).without(8), Change{Kind: Move, Node: 9, Dir: 2, Name: "n", To: 1, Other: "s", Over: 8})
}

func TestMoveAndMore(t *testing.T) {
	l := sample()
	plain := l.less(2, "g").more(1, "n", 4)
	over := l.less(2, "g").more(1, "s", 4)
	wantEach(t, map[string]nodes{
		"it is gone":               plain.without(4),
		"another one gone":         plain.without(8),
		"it is gone, over another": over.without(4),
		"both gone":                over.without(4, 8),
		"not the replaced gone":    over.without(3),
		"its directory gone":       l.more(7, "n", 3).without(2),
		"that replaced, too":       l.more(1, "d", 4).less(2, "g").without(2),
		"two places":               plain.more(6, "n", 4),
		"two places, one dir":      plain.more(1, "m", 4),
		"two from":                 l.less(1, "f").less(2, "h").more(6, "n", 3),
		"two from, one dir":        l.less(1, "f").less(2, "h").more(1, "n", 3),
		"two from, over another":   l.less(1, "f").less(2, "h").more(1, "s", 3),
		"another one lost":         plain.less(1, "s"),
		"another lost, one dir":    plain.less(2, "h"),
		"another lost, that name":  l.more(2, "f", 8).less(1, "f").less(1, "s"),
		"over, another one lost":   over.less(2, "h"),
		"two moved":                plain.less(2, "h").more(1, "m", 3),
		"two in each other's":      l.more(1, "s", 4).more(2, "g", 8),
		"two in one directory":     l.more(2, "h", 4).more(2, "g", 3),
		"just replaced":            l.more(1, "s", 4),
		"just replaced, gone":      l.more(1, "s", 4).without(8),
		"replaced, another lost":   l.more(1, "s", 4).less(2, "h"),
		"of none, another lost":    l.more(1, "n", 12).less(2, "h"),
		"a node of none":           plain.with(9, file("")),
		"a made one":               l.less(2, "g").more(1, "n", 9).with(9, file("")),
		"a made one, it gone":      l.less(2, "g").more(1, "n", 9).with(9, file("g")).without(4),
		"a mode":                   plain.set(4, 0, -1, -1),
		"its dir's mode":           plain.set(2, 0, -1, -1),
		"that dir's mode":          plain.set(1, 0, -1, -1),
		"data":                     plain.with(4, file("")),
		"over, a mode":             over.set(8, 0, -1, -1),
	}, Change{Kind: Many})
}

func TestFree(t *testing.T) {
	for i := range sample() {
		want := Change{Kind: Free, Node: i}
		wantOf(t, sample(), sample().without(i), want)
		wantOf(t, nodes{i: sample()[i]}, nodes{}, want)
	}
}

func TestFreeAndMore(t *testing.T) {
	l := sample().without(4)
	wantEach(t, map[string]nodes{
		"two":             l.without(3),
		"all":             {},
		"another one new": l.with(9, file("")),
		"of that node":    l.with(9, file("g")),
		"a mode":          l.set(3, 0, -1, -1),
		"data":            l.with(3, file("")),
		"an entry less":   l.less(2, "h"),
		"an entry more":   l.more(2, "n", 3),
		"made":            l.more(2, "n", 9).with(9, file("")),
	}, Change{Kind: Many})
	wantOf(t, nodes{}, sample(), Change{Kind: Many})
	wantOf(t, nodes{}, nodes{1: dir()}, Change{Kind: Many})
	wantOf(t, nodes{}, nodes{3: dir(ent("x", 3))}, Change{Kind: Many})
}

// The last number that there may be counts like any other one.
func TestLastNumber(t *testing.T) {
	last := sample().with(24, file("x"))
	want := func(before, after nodes, want Change) {
		t.Helper()
		if got := Of(tableOf(t, 24, before), tableOf(t, 24, after)); got != want {
			t.Errorf("%v, want %v", got, want)
		}
	}
	want(last, last, Change{})
	want(last, last.set(24, 0, -1, -1), Change{Kind: Attr, Node: 24})
	want(last, last.with(24, file("")), Change{Kind: Data, Node: 24})
	want(sample(), last.more(2, "n", 24), Change{Kind: Make, Node: 24, Dir: 2, Name: "n"})
	want(last.more(2, "n", 24), sample(), Change{Kind: Take, Node: 24, Dir: 2, Name: "n"})
	want(last, sample(), Change{Kind: Free, Node: 24})
	in := sample().with(24, dir(ent("a", 4))).with(23, dir(ent("b", 8)))
	want(in, in.less(24, "a").more(23, "b", 4).without(8), Change{Kind: Move, Node: 4, Dir: 24, Name: "a", To: 23, Other: "b", Over: 8})
	want(in, in.less(23, "b").more(24, "b", 8), Change{Kind: Move, Node: 8, Dir: 23, Name: "b", To: 24, Other: "b"})
}

// All entries that there may be.
func TestFullDirectories(t *testing.T) {
	full := sample()
	for _, name := range []string{"a", "b", "c", "d", "i"} {
		full = full.more(2, name, 8)
	}
	for _, e := range full[2].Ents {
		wantOf(t, full, full.less(2, e.Name), Change{Kind: Take, Node: e.Node, Dir: 2, Name: e.Name})
		wantOf(t, full, full.less(2, e.Name).more(2, "z", e.Node), Change{Kind: Move, Node: e.Node, Dir: 2, Name: e.Name, To: 2, Other: "z"})
		wantOf(t, full, full.more(2, e.Name, 5).less(1, "l"), Change{Kind: Move, Node: 5, Dir: 1, Name: "l", To: 2, Other: e.Name, Over: e.Node})
		empty := full.with(2, dir())
		wantOf(t, full, empty, Change{Kind: Many})
		wantOf(t, empty, full, Change{Kind: Many})
	}
}

// P18.2

func TestNil(t *testing.T) {
	none, some := table.New(9), tableOf(t, 9, sample())
	one := tableOf(t, 9, nodes{4: dir(ent("x", 4))})
	for _, x := range []struct {
		before, after *table.Table
		want          Change
	}{
		{nil, nil, Change{}},
		{nil, none, Change{}},
		{none, nil, Change{}},
		{nil, one, Change{Kind: Many}},
		{one, nil, Change{Kind: Free, Node: 4}},
		{nil, some, Change{Kind: Many}},
		{some, nil, Change{Kind: Many}},
	} {
		if got := Of(x.before, x.after); got != x.want {
			t.Errorf("%v, want %v", got, x.want)
		}
	}
}

// A second reading of the chapter: of each change that there may be, what would
// be there behind it, held against what is there.

// alike tells whether two lists of nodes are the same.
func (l nodes) alike(o nodes) bool { return maps.EqualFunc(l, o, node.Same) }

// behind tells whether nodes are what others become, of which one number may be gone as well.
func (l nodes) behind(o nodes, mayGo int) bool { return l.alike(o) || l.alike(o.without(mayGo)) }

func reading(before, after nodes) Change {
	if after.alike(before) {
		return Change{}
	}
	for _, of := range []func(before, after nodes) (Change, bool){oneChanged, oneMade, oneFree, oneTaken, oneMoved} {
		if c, is := of(before, after); is {
			return c
		}
	}
	return Change{Kind: Many}
}

func oneChanged(before, after nodes) (Change, bool) {
	for i, n := range before {
		is := after[i]
		n.Mode, n.Uid, n.Gid = is.Mode, is.Uid, is.Gid
		if after.alike(before.with(i, n)) {
			return Change{Kind: Attr, Node: i}, true
		}
		n = before[i]
		n.Mode, n.Data = is.Mode, is.Data
		if n.Kind == api.File && after.alike(before.with(i, n)) {
			return Change{Kind: Data, Node: i}, true
		}
	}
	return Change{}, false
}

func oneMade(before, after nodes) (Change, bool) {
	for i, n := range after {
		if _, had := before[i]; had {
			continue
		}
		for at := range before {
			for _, e := range after[at].Ents {
				isThere := node.Find(before[at], e.Name) != 0
				if !isThere && e.Node == i && before[at].Kind == api.Dir && after.alike(before.more(at, e.Name, i).with(i, n)) {
					return Change{Kind: Make, Node: i, Dir: at, Name: e.Name}, true
				}
			}
		}
	}
	return Change{}, false
}

func oneFree(before, after nodes) (Change, bool) {
	for i := range before {
		if after.alike(before.without(i)) {
			return Change{Kind: Free, Node: i}, true
		}
	}
	return Change{}, false
}

func oneTaken(before, after nodes) (Change, bool) {
	for at, n := range before {
		for _, e := range n.Ents {
			if _, has := after[at]; has && after.behind(before.less(at, e.Name), e.Node) {
				return Change{Kind: Take, Node: e.Node, Dir: at, Name: e.Name}, true
			}
		}
	}
	return Change{}, false
}

func oneMoved(before, after nodes) (Change, bool) {
	for at, n := range before {
		for _, e := range n.Ents {
			for to, m := range after {
				for _, o := range m.Ents {
					if _, has := after[at]; !has || o.Node != e.Node || before[to].Kind != api.Dir {
						continue
					}
					over := node.Find(before[to], o.Name)
					if over != e.Node && after.behind(before.less(at, e.Name).more(to, o.Name, e.Node), over) {
						return Change{Kind: Move, Node: e.Node, Dir: at, Name: e.Name, To: to, Other: o.Name, Over: over}, true
					}
				}
			}
		}
	}
	return Change{}, false
}

// wantAsRead asks for what the second reading says, and counts it.
func wantAsRead(t *testing.T, x, y *table.Table, before, after nodes, cameUp map[Change]int) {
	t.Helper()
	want := reading(before, after)
	if got := Of(x, y); got != want {
		t.Fatalf("%v, want %v: %v, of %v", got, want, after, before)
	}
	cameUp[Change{Kind: want.Kind, Over: min(want.Over, 1)}]++
}

// wantCameUp asks that each kind came up, and a move with and without another node over which it goes.
func wantCameUp(t *testing.T, cameUp map[Change]int, least int) {
	t.Helper()
	for kind := None; kind <= Many; kind++ {
		if cameUp[Change{Kind: kind}] < least {
			t.Errorf("kind %d came up %d times alone", kind, cameUp[Change{Kind: kind}])
		}
	}
	if cameUp[Change{Kind: Move, Over: 1}] < least {
		t.Errorf("a move over another node came up %d times alone", cameUp[Change{Kind: Move, Over: 1}])
	}
}

// All pairs of tables with two numbers, of few nodes each.
func TestSmallTables(t *testing.T) {
	some := []*node.Node{nil}
	add := func(n node.Node) { some = append(some, &n) }
	add(file(""))
	add(file("x"))
	add(link("x"))
	for a := range 4 {
		for b := range 3 {
			var ents []node.Ent
			if a > 0 {
				ents = append(ents, ent("a", a))
			}
			if b > 0 {
				ents = append(ents, ent("b", b))
			}
			add(dir(ents...))
		}
	}
	other := dir(ent("a", 2))
	other.Uid = 9
	add(other)
	var tables []*table.Table
	var lists []nodes
	for _, first := range some {
		for _, second := range some {
			l := nodes{}
			if first != nil {
				l[1] = *first
			}
			if second != nil {
				l[2] = *second
			}
			lists, tables = append(lists, l), append(tables, tableOf(t, 2, l))
		}
	}
	cameUp := map[Change]int{}
	for i, before := range lists {
		for j, after := range lists {
			wantAsRead(t, tables[i], tables[j], before, after, cameUp)
		}
	}
	wantCameUp(t, cameUp, 50)
}

// someNodes is nodes by chance, which needn't be a tree.
func someNodes(r *rand.Rand, room int) nodes {
	l := nodes{}
	for i := 1; i <= room; i++ {
		switch r.Intn(7) {
		case 0:
		case 1, 2:
			l[i] = file(strings.Repeat("x", r.Intn(3)))
		case 3:
			l[i] = link(strings.Repeat("x", 1+r.Intn(2)))
		default:
			l[i] = dir()
			for range r.Intn(5) {
				l = l.more(i, someName(r), 1+r.Intn(room+1))
			}
		}
	}
	return l
}

func someName(r *rand.Rand) string { return string(rune('a' + r.Intn(4))) }

// someStep is nodes, of which one thing is otherwise.
func someStep(r *rand.Rand, l nodes, room int) nodes {
	i, j := 1+r.Intn(room), 1+r.Intn(room)
	n, is := l[i]
	switch what := r.Intn(10); {
	case what == 0 && is:
		return l.without(i)
	case what == 1 && !is:
		return l.with(i, []node.Node{file(""), dir(), link("x"), dir(ent("a", i))}[r.Intn(4)])
	case what == 2 && is && n.Kind != api.Link:
		return l.set(i, r.Intn(3), -1, -1)
	case what == 3 && is:
		return l.set(i, -1, r.Intn(3), r.Intn(3))
	case what == 4 && n.Kind == api.File:
		n.Data = []byte(strings.Repeat("y", r.Intn(3)))
		return l.with(i, n)
	case what == 5 && is:
		return l.with(i, []node.Node{file(""), dir(), link("x")}[r.Intn(3)])
	case what == 6 && n.Kind == api.Dir:
		return l.less(i, someName(r))
	case what == 7 && n.Kind == api.Dir:
		return l.more(i, someName(r), 1+r.Intn(room+1))
	case what == 8 && len(n.Ents) > 0 && l[j].Kind == api.Dir:
		e := n.Ents[r.Intn(len(n.Ents))]
		return l.less(i, e.Name).more(j, someName(r), e.Node)
	case what == 9 && !is && l[j].Kind == api.Dir:
		return l.with(i, file("")).more(j, someName(r), i)
	}
	return l
}

func TestManyTables(t *testing.T) {
	r := rand.New(rand.NewSource(18))
	cameUp := map[Change]int{}
	for range 80000 {
		room := 1 + r.Intn(6)
		before := someNodes(r, room)
		after := before
		for range 1 + r.Intn(3) {
			after = someStep(r, after, room)
		}
		x, y := tableOf(t, room, before), tableOf(t, room, after)
		wantAsRead(t, x, y, before, after, cameUp)
		wantAsRead(t, y, x, after, before, cameUp)
	}
	wantCameUp(t, cameUp, 200)
}

// P18.3, of many systems by chance of one seed.

var everyone = []api.Cred{{}, {Uid: 1, Gid: 1, Groups: []int{4}}, {Uid: 2, Gid: 2, Groups: []int{3}}, {Uid: 9, Gid: 9}, {Uid: -1, Gid: -1}}

// mayBe is the kinds of changes that a kind of call makes, where it tells no error.
func mayBe(kind int) []int {
	switch kind {
	case sys.Chmod, sys.Chown, sys.Lchown:
		return []int{None, Attr}
	case sys.Mkdir, sys.Symlink:
		return []int{Make}
	case sys.Unlink, sys.Rmdir:
		return []int{Take}
	case sys.Rename:
		return []int{None, Move}
	case sys.Open:
		return []int{None, Attr, Data, Make}
	case sys.Write:
		return []int{None, Attr, Data}
	case sys.Close:
		return []int{None, Free}
	case sys.Exit:
		return []int{None, Free, Many}
	}
	return []int{None}
}

func somePath(r *rand.Rand, most int) string {
	pieces := []string{"a", "b", "c", "d", "a", "b", "c", "a", "b", "e", ".", "..", "", "nnnnnnnnnnnnn"}
	var names []string
	for range 1 + r.Intn(most) {
		names = append(names, pieces[r.Intn(len(pieces))])
	}
	path := strings.Join(names, "/")
	if path == "" || r.Intn(3) == 0 {
		path = "/" + path
	}
	return path
}

func someMode(r *rand.Rand) int {
	if r.Intn(4) > 0 {
		return 0o777 | r.Intn(8)<<9
	}
	return r.Intn(4096)
}

// someTree is a table that is Right, of nodes that were told by chance.
func someTree(r *rand.Rand) *table.Table {
	told := []build.Raw{{Kind: api.Dir, Mode: 0o777 | r.Intn(8)<<9, Uid: r.Intn(3), Gid: r.Intn(5)}}
	room := 2 + r.Intn(api.CapMax)
	x, _, _ := build.Build(room, told)
	for range r.Intn(30) {
		raw := build.Raw{Kind: 1 + r.Intn(4), Mode: someMode(r), Uid: r.Intn(3), Gid: r.Intn(5), Parent: 1 + r.Intn(len(told)), Name: string(rune('a' + r.Intn(5)))}
		switch raw.Kind {
		case api.File:
			raw.Data = make([]byte, r.Intn(3))
		case api.Link:
			raw.Mode, raw.Target = 511, somePath(r, 3)
		case build.Again:
			raw.Node = 1 + r.Intn(len(told))
		}
		more, _, err := build.Build(room, append(slices.Clone(told), raw))
		if err == api.OK {
			x, told = more, append(told, raw)
		}
	}
	return x
}

func someCall(r *rand.Rand) sys.Call {
	kinds := []int{sys.Open, sys.Open, sys.Open, sys.Open, sys.Write, sys.Unlink, sys.Rmdir, sys.Rename, sys.Rename}
	kind := 1 + r.Intn(18)
	if r.Intn(2) == 0 {
		kind = kinds[r.Intn(len(kinds))]
	}
	k := sys.Call{Kind: kind, Path: somePath(r, 3), Other: somePath(r, 3), A: someMode(r), B: someMode(r)}
	switch k.Kind {
	case sys.Chown, sys.Lchown:
		k.A, k.B = r.Intn(7)-2, r.Intn(7)-2
	case sys.Open:
		k.A = []int{1, 2, 3, 6, 7, 14, 18, 22, 18, r.Intn(70)}[r.Intn(10)]
	case sys.Read, sys.Write, sys.Close:
		k.A, k.B, k.Data = r.Intn(4), r.Intn(30)-2, make([]byte, r.Intn(4))
	case sys.Exit:
		k.Kind = []int{sys.Chmod, sys.Exit}[r.Intn(2)]
	}
	return k
}

func TestManyCalls(t *testing.T) {
	r := rand.New(rand.NewSource(183))
	cameUp := map[[2]int]int{}
	for range 3000 {
		s := sys.New(someTree(r), r.Intn(512), everyone...)
		last := sys.Call{}
		for range 100 {
			pid, k := r.Intn(len(everyone)), someCall(r)
			if last.Kind == sys.Open && r.Intn(3) == 0 {
				// What is open often loses its entry, so that it is freed when it is closed.
				pid, k = 0, sys.Call{Kind: sys.Unlink, Path: last.Path}
			}
			last = k
			before := s.Table()
			told := s.Do(pid, k)
			after := s.Table()
			got := Of(before, after)
			if want := reading(nodesOf(before), nodesOf(after)); got != want {
				t.Fatalf("%v, by process %d: %v, want %v", k, pid, got, want)
			}
			if told.Err != api.OK && got != (Change{}) || told.Err == api.OK && !slices.Contains(mayBe(k.Kind), got.Kind) {
				t.Fatalf("%v, by process %d: %v, %v", k, pid, told, got)
			}
			if told.Err == api.OK {
				cameUp[[2]int{k.Kind, got.Kind}]++
			}
		}
	}
	for kind := sys.Stat; kind <= sys.Exit; kind++ {
		for _, change := range mayBe(kind) {
			if cameUp[[2]int{kind, change}] < 10 {
				t.Errorf("a call of kind %d was %d %d times alone", kind, change, cameUp[[2]int{kind, change}])
			}
		}
	}
}

// Calls of each kind, and what becomes of the table, call by call.
func TestCalls(t *testing.T) {
	x := tableOf(t, 12, sample())
	s := sys.New(x, 0o022, api.Cred{Uid: 1, Gid: 2})
	for _, c := range []struct {
		call sys.Call
		want Change
	}{
		{sys.Call{Kind: sys.Stat, Path: "d"}, Change{}},
		{sys.Call{Kind: sys.Chmod, Path: "d", A: 0o2755}, Change{Kind: Attr, Node: 2}},
		{sys.Call{Kind: sys.Chmod, Path: "d", A: 0o2755}, Change{}},
		{sys.Call{Kind: sys.Mkdir, Path: "d/x", A: 0o777}, Change{Kind: Make, Node: 9, Dir: 2, Name: "x"}},
		{sys.Call{Kind: sys.Symlink, Path: "t", Other: "d"}, Change{Kind: Make, Node: 10, Dir: 1, Name: "t"}},
		{sys.Call{Kind: sys.Open, Path: "d/x/f", A: files.Write | files.Creat, B: 0o666}, Change{Kind: Make, Node: 11, Dir: 9, Name: "f"}},
		{sys.Call{Kind: sys.Open, Path: "d/g", A: files.Read | files.Write}, Change{}},
		{sys.Call{Kind: sys.Write, A: 1, Data: []byte("g")}, Change{}},
		{sys.Call{Kind: sys.Write, A: 1, Data: []byte("g")}, Change{Kind: Data, Node: 4}},
		{sys.Call{Kind: sys.Chmod, Path: "d/g", A: 0o4755}, Change{Kind: Attr, Node: 4}},
		{sys.Call{Kind: sys.Open, Path: "d/g", A: files.Write | files.Trunc}, Change{Kind: Data, Node: 4}},
		{sys.Call{Kind: sys.Rename, Path: "d/x/f", Other: "d/g"}, Change{Kind: Move, Node: 11, Dir: 9, Name: "f", To: 2, Other: "g", Over: 4}},
		{sys.Call{Kind: sys.Close, A: 1}, Change{}},
		{sys.Call{Kind: sys.Close, A: 2}, Change{Kind: Free, Node: 4}},
		{sys.Call{Kind: sys.Rename, Path: "d/x", Other: "e"}, Change{Kind: Move, Node: 9, Dir: 2, Name: "x", To: 1, Other: "e", Over: 7}},
		{sys.Call{Kind: sys.Rename, Path: "f", Other: "d/h"}, Change{}},
		{sys.Call{Kind: sys.Rename, Path: "f", Other: "s"}, Change{Kind: Move, Node: 3, Dir: 1, Name: "f", To: 1, Other: "s", Over: 8}},
		{sys.Call{Kind: sys.Unlink, Path: "s"}, Change{Kind: Take, Node: 3, Dir: 1, Name: "s"}},
		{sys.Call{Kind: sys.Unlink, Path: "d/h"}, Change{Kind: Take, Node: 3, Dir: 2, Name: "h"}},
		{sys.Call{Kind: sys.Rmdir, Path: "e"}, Change{Kind: Take, Node: 9, Dir: 1, Name: "e"}},
		{sys.Call{Kind: sys.Unlink, Path: "d/g"}, Change{Kind: Take, Node: 11, Dir: 2, Name: "g"}},
		{sys.Call{Kind: sys.Exit}, Change{Kind: Free, Node: 11}},
	} {
		before := s.Table()
		if r := s.Do(0, c.call); r.Err != api.OK {
			t.Errorf("%v: %v", c.call, r)
		}
		if got := Of(before, s.Table()); got != c.want {
			t.Errorf("%v: %v, want %v", c.call, got, c.want)
		}
	}
}

// Exit closes all that is open, so that it may be more than one change.
func TestExit(t *testing.T) {
	s := sys.New(tableOf(t, 12, sample()), 0o022, api.Cred{})
	for _, path := range []string{"s", "d/g"} {
		s.Do(0, sys.Call{Kind: sys.Open, Path: path, A: files.Read})
		s.Do(0, sys.Call{Kind: sys.Unlink, Path: path})
	}
	before := s.Table()
	s.Do(0, sys.Call{Kind: sys.Exit})
	if got := Of(before, s.Table()); got != (Change{Kind: Many}) {
		t.Error(got)
	}
}

// The same tables have the same answer, and stay as they are.
func TestApart(t *testing.T) {
	r := rand.New(rand.NewSource(7))
	for range 300 {
		room := 1 + r.Intn(6)
		before := someNodes(r, room)
		after := someStep(r, someStep(r, before, room), room)
		x, y := tableOf(t, room, before), tableOf(t, room, after)
		first := Of(x, y)
		for range 3 {
			if got := Of(x, y); got != first {
				t.Fatalf("%v, then %v", first, got)
			}
		}
		if !nodesOf(x).alike(before) || !nodesOf(y).alike(after) {
			t.Fatal("what is handed in is changed")
		}
	}
}
