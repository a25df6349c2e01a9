package allowed

import (
	"maps"
	"math/rand"
	"slices"
	"strings"
	"testing"

	"gaoler/api"
	"gaoler/build"
	"gaoler/change"
	"gaoler/files"
	"gaoler/node"
	"gaoler/sys"
	"gaoler/table"
)

var (
	allRoot  = api.Cred{}
	ann      = api.Cred{Uid: 1, Gid: 1, Groups: []int{4}}
	bob      = api.Cred{Uid: 2, Gid: 2, Groups: []int{3}}
	cat      = api.Cred{Uid: 9, Gid: 9}
	noOne    = api.Cred{Uid: -1, Gid: -1, Groups: []int{-2}}
	everyone = []api.Cred{allRoot, ann, bob, cat, noOne}
)

// nodes is a table's nodes, by their numbers.
type nodes map[int]node.Node

// Nodes that are told are ann's, and of group 3, but where nodes.set tells another one.

func dir(mode int, ents ...node.Ent) node.Node {
	return node.Node{Kind: api.Dir, Mode: mode, Uid: 1, Gid: 3, Ents: ents}
}

func file(mode int, data string) node.Node {
	return node.Node{Kind: api.File, Mode: mode, Uid: 1, Gid: 3, Data: []byte(data)}
}

func link(target string) node.Node {
	return node.Node{Kind: api.Link, Mode: 511, Uid: 1, Gid: 3, Target: target}
}

func ent(name string, id int) node.Ent { return node.Ent{Name: name, Node: id} }

// tableOf is a table of some nodes, which needn't be a tree.
func tableOf(t *testing.T, room int, l nodes) *table.Table {
	t.Helper()
	x := table.New(room)
	for range room {
		x.Add(file(0, ""))
	}
	for i := 1; i <= room; i++ {
		n, is := l[i]
		if !is {
			x.Drop(i)
			continue
		}
		if err := x.Put(i, n); err != api.OK {
			t.Fatalf("node %d may not be: %v", i, n)
		}
	}
	if x.Used() != len(l) {
		t.Fatalf("%d of %d nodes", x.Used(), len(l))
	}
	return x
}

func nodesOf(x *table.Table) nodes {
	l := nodes{}
	for i := 1; i <= api.CapMax; i++ {
		if n, is := x.Get(i); is {
			l[i] = n
		}
	}
	return l
}

// with is some nodes, of which one is another one, or is there, too.
func (l nodes) with(i int, n node.Node) nodes {
	l = maps.Clone(l)
	l[i] = n
	return l
}

// without is some nodes but those of some numbers.
func (l nodes) without(numbers ...int) nodes {
	l = maps.Clone(l)
	for _, i := range numbers {
		delete(l, i)
	}
	return l
}

// more is some nodes, of which a directory has one entry more, in the place of the one of that name, if there is one.
func (l nodes) more(i int, name string, id int) nodes {
	n := l.less(i, name)[i]
	n.Ents = append(slices.Clone(n.Ents), ent(name, id))
	slices.SortFunc(n.Ents, func(a, b node.Ent) int { return strings.Compare(a.Name, b.Name) })
	return l.with(i, n)
}

// less is some nodes, of which a directory has no entry of a name.
func (l nodes) less(i int, name string) nodes {
	n := l[i]
	n.Ents = slices.DeleteFunc(slices.Clone(n.Ents), func(e node.Ent) bool { return e.Name == name })
	return l.with(i, n)
}

// set is some nodes, of which one has another mode, owner and group, each of which stays as it is, if it is -1.
func (l nodes) set(i, mode, uid, gid int) nodes {
	n := l[i]
	for _, x := range []struct {
		field *int
		to    int
	}{{&n.Mode, mode}, {&n.Uid, uid}, {&n.Gid, gid}} {
		if x.to >= 0 {
			*x.field = x.to
		}
	}
	return l.with(i, n)
}

// data is some nodes, of which one has other bytes.
func (l nodes) data(i int, s string) nodes {
	n := l[i]
	n.Data = []byte(s)
	return l.with(i, n)
}

// Numbers of the sample's nodes.
const (
	theD    = 2 // ann's, and open to all
	theF    = 3 // in theD
	theS    = 4
	theShut = 5 // just ann may go there
	theG    = 6 // in theShut
	theTmp  = 7 // root's, with Sticky, open to all
	theX    = 8 // bob's, in theTmp
	theY    = 9 // cat's, in theTmp
	theE    = 10
	fresh   = 11 // there is none
)

// sample is a tree: /d, /d/f, /s, /shut, /shut/g, /tmp, /tmp/x, /tmp/y and /d/e, which is empty.
func sample() nodes {
	return nodes{
		1:       dir(0o755, ent("d", theD), ent("s", theS), ent("shut", theShut), ent("tmp", theTmp)),
		theD:    dir(0o777, ent("e", theE), ent("f", theF)),
		theF:    file(0o6755, "f"),
		theS:    link("d"),
		theShut: dir(0o700, ent("g", theG)),
		theG:    file(0o666, "g"),
		theTmp:  dir(0o1777, ent("x", theX), ent("y", theY)),
		theX:    file(0o644, "x"),
		theY:    file(0o600, "y"),
		theE:    dir(0o755),
	}.set(1, -1, 0, 0).set(theTmp, -1, 0, 0).set(theX, -1, 2, 2).set(theY, -1, 9, 9)
}

// wantBy asks who of everyone may make a change; how much room there is plays no part, nor does the order of writes.
func wantBy(t *testing.T, before, after nodes, writes []int, may ...api.Cred) {
	t.Helper()
	for _, room := range [][2]int{{12, 12}, {12, 24}, {24, 12}} {
		a, b := tableOf(t, room[0], before), tableOf(t, room[1], after)
		keepA, keepB, keep := a.Clone(), b.Clone(), slices.Clone(writes)
		for _, c := range everyone {
			want := slices.ContainsFunc(may, func(o api.Cred) bool { return o.Uid == c.Uid })
			if got := Allowed(c, a, b, writes...); got != want {
				t.Errorf("by %d: %v, want %v, where %v is open", c.Uid, got, want, writes)
			}
			if got := Allowed(c, a, b, append([]int{-1, 0, 25}, writes...)...); got != want {
				t.Errorf("by %d: %v, want %v, where %v and what isn't there is open", c.Uid, got, want, writes)
			}
		}
		if !a.Same(keepA) || !b.Same(keepB) || !slices.Equal(writes, keep) {
			t.Error("what is handed in is changed")
		}
	}
}

func TestChapterExamples(t *testing.T) {
	// Who may write a directory without Sticky may take any entry away; with it, just their own.
	for _, mode := range []int{0o1777, 0o777} {
		l := sample().set(theTmp, mode, -1, -1)
		x, y := l.less(theTmp, "x").without(theX), l.less(theTmp, "y").without(theY)
		if mode == 0o777 {
			wantBy(t, l, x, nil, everyone...)
			wantBy(t, l, y, nil, everyone...)
			continue
		}
		wantBy(t, l, x, nil, allRoot, bob)
		wantBy(t, l, y, nil, allRoot, cat)
	}
}

// P19.1

// chain is so many directories, each in the one ahead, from node 1 on.
func chain(mode, long int) nodes {
	l := nodes{1: dir(mode)}
	for i := 2; i <= long; i++ {
		l = l.with(i, dir(mode)).more(i-1, "n", i)
	}
	return l
}

// wantWay asks who of everyone may come to a directory.
func wantWay(t *testing.T, l nodes, i int, may ...api.Cred) {
	t.Helper()
	x := tableOf(t, 24, l)
	for _, c := range everyone {
		want := slices.ContainsFunc(may, func(o api.Cred) bool { return o.Uid == c.Uid })
		if got := Way(x, c, i); got != want {
			t.Errorf("to %d, by %d: %v, want %v", i, c.Uid, got, want)
		}
	}
}

// wantSeen asks who of everyone may come to a node by an entry.
func wantSeen(t *testing.T, l nodes, i int, may ...api.Cred) {
	t.Helper()
	x := tableOf(t, 24, l)
	for _, c := range everyone {
		want := slices.ContainsFunc(may, func(o api.Cred) bool { return o.Uid == c.Uid })
		if got := Seen(x, c, i); got != want {
			t.Errorf("of %d, by %d: %v, want %v", i, c.Uid, got, want)
		}
	}
}

func TestWay(t *testing.T) {
	l := sample()
	for _, i := range []int{1, theD, theShut, theTmp, theE} {
		wantWay(t, l, i, everyone...)
	}
	// The directory's own mode plays no part, but those above it.
	for _, mode := range []int{0, 0o666, 0o4666, 0o777} {
		wantWay(t, l.set(1, mode, -1, -1), 1, everyone...)
		wantWay(t, l.set(theE, mode, -1, -1), theE, everyone...)
	}
	wantWay(t, l.set(theD, 0o666, -1, -1), theE, allRoot)
	wantWay(t, l.set(theD, 0o100, -1, -1), theE, allRoot, ann)
	wantWay(t, l.set(theD, 0o010, -1, -1), theE, allRoot, bob)
	wantWay(t, l.set(theD, 0o001, -1, -1), theE, allRoot, cat, noOne)
	wantWay(t, l.set(1, 0o700, -1, -1), theE, allRoot)
	wantWay(t, l.set(1, 0o001, 1, -1), theE, allRoot, bob, cat, noOne)
	wantWay(t, l.set(1, 0o700, -1, -1), theD, allRoot)
	wantWay(t, l.set(1, 0o101, -1, -1).set(theD, 0o011, -1, -1), theE, allRoot, bob, cat, noOne)
	// What is no directory, and what isn't there.
	for _, i := range []int{theF, theS, theG, theX, fresh, 24, 25, 0, -1, 1 << 62, -1 << 62} {
		wantWay(t, l, i)
	}
	wantWay(t, nodes{1: file(0o777, "")}, 1)
	wantWay(t, nodes{1: link("x")}, 1)
	wantWay(t, nodes{}, 1)
}

func TestWayOfChains(t *testing.T) {
	for long := 2; long <= 24; long++ {
		l := chain(0o111, long)
		for i := range l {
			wantWay(t, l, i, everyone...)
		}
		for shut := 1; shut <= long; shut++ {
			s := l.set(shut, 0o700, -1, -1)
			for i := range l {
				if i <= shut {
					wantWay(t, s, i, everyone...)
					continue
				}
				wantWay(t, s, i, allRoot, ann)
			}
		}
	}
	// Falling numbers are gone along, too.
	l := nodes{1: dir(0o777, ent("n", 24))}
	for i := 24; i > 1; i-- {
		l[i] = dir(0o777, ent("n", i-1))
	}
	l[2] = dir(0o777)
	for i := range l {
		wantWay(t, l, i, everyone...)
	}
	wantWay(t, l.set(24, 0o700, -1, -1), 2, allRoot, ann)
}

func TestWayOfWrongTables(t *testing.T) {
	// Directories that don't come to node 1, or in a ring.
	l := nodes{1: dir(0o777), 2: dir(0o777), 3: dir(0o777, ent("a", 4)), 4: dir(0o777, ent("a", 5)), 5: dir(0o777, ent("a", 3)), 6: dir(0o777, ent("a", 6))}
	for i := 2; i <= 6; i++ {
		wantWay(t, l, i)
	}
	// What has an entry of node 1 plays no part, nor does an own one of it.
	l = nodes{1: dir(0, ent("a", 1), ent("b", 2)), 2: dir(0, ent("a", 1))}
	wantWay(t, l, 1, everyone...)
	wantWay(t, l, 2, allRoot)
	// The Parent is the first directory of some; the others play no part.
	l = nodes{1: dir(0o777, ent("a", 2), ent("b", 3)), 2: dir(0, ent("a", 4)), 3: dir(0o777, ent("a", 4)), 4: dir(0)}
	wantWay(t, l, 4, allRoot)
	wantWay(t, l.less(2, "a"), 4, everyone...)
	l = nodes{1: dir(0o777, ent("b", 3)), 2: dir(0o777, ent("a", 4)), 3: dir(0o777, ent("a", 4)), 4: dir(0)}
	wantWay(t, l, 4)
	// There is no node 1, or it is no directory.
	wantWay(t, nodes{2: dir(0o777, ent("a", 3)), 3: dir(0o777)}, 3)
	wantWay(t, nodes{1: file(0o777, ""), 2: dir(0o777)}, 2)
	wantWay(t, nodes{1: file(0o777, ""), 2: dir(0o777, ent("a", 1))}, 2)
}

func TestSeen(t *testing.T) {
	l := sample()
	for _, i := range []int{1, theD, theF, theS, theShut, theTmp, theX, theY, theE} {
		wantSeen(t, l, i, everyone...)
		// What it lets itself plays no part.
		if i != theD && i != theTmp && i != theS {
			wantSeen(t, l.set(i, 0, 7, 7), i, everyone...)
		}
	}
	wantSeen(t, l, theG, allRoot, ann)
	wantSeen(t, l.set(theShut, 0o010, -1, -1), theG, allRoot, bob)
	wantSeen(t, l.set(theShut, 0o766, -1, -1), theG, allRoot, ann)
	wantSeen(t, l.set(theShut, 0o666, -1, -1), theG, allRoot)
	wantSeen(t, l.set(1, 0o666, 1, -1), theG, allRoot)
	wantSeen(t, l.set(1, 0o766, 1, -1), theG, allRoot, ann)
	wantSeen(t, l.set(1, 0, -1, -1), 1, everyone...)
	wantSeen(t, l.set(1, 0, -1, -1), theD, allRoot)
	for _, i := range []int{fresh, 24, 25, 0, -1, 1 << 62, -1 << 62} {
		wantSeen(t, l, i)
	}
	// An entry of what isn't there.
	wantSeen(t, l.more(theD, "n", fresh), fresh)
	wantSeen(t, l.without(1), 1)
	wantSeen(t, l.without(1).more(theD, "n", 1), 1)
}

func TestSeenByAnyEntry(t *testing.T) {
	l := sample().more(theD, "g", theG)
	wantSeen(t, l, theG, everyone...)
	wantSeen(t, l.set(theD, 0o700, 2, -1), theG, allRoot, ann, bob)
	wantSeen(t, l.set(theD, 0o010, 2, -1), theG, allRoot, ann)
	l = l.less(theD, "g").more(theTmp, "g", theG)
	wantSeen(t, l, theG, everyone...)
	// The last number may have the entry, and the node.
	l = sample().with(23, dir(0o777, ent("f", 24))).with(24, file(0, "")).more(theD, "n", 23)
	wantSeen(t, l, 24, everyone...)
	l = sample().with(24, dir(0o777, ent("f", 23))).with(23, file(0, "")).more(theD, "n", 24)
	wantSeen(t, l, 23, everyone...)
}

func TestSeenInWrongTables(t *testing.T) {
	wantSeen(t, nodes{1: file(0, "")}, 1, everyone...)
	wantSeen(t, nodes{1: link("x")}, 1, everyone...)
	wantSeen(t, nodes{1: dir(0)}, 1, everyone...)
	// No entry has it, or just a directory to which there is no way.
	wantSeen(t, nodes{1: dir(0o777), 2: file(0o777, "")}, 2)
	wantSeen(t, nodes{1: dir(0o777), 2: file(0o777, ""), 3: dir(0o777, ent("a", 2))}, 2)
	wantSeen(t, nodes{1: dir(0o777), 3: dir(0o777, ent("a", 3))}, 3)
	wantSeen(t, nodes{2: file(0o777, ""), 3: dir(0o777, ent("a", 2))}, 2)
	// One of two directories has a way.
	l := nodes{1: dir(0o777, ent("d", 4)), 2: file(0, ""), 3: dir(0o777, ent("a", 2)), 4: dir(0o777, ent("a", 2))}
	wantSeen(t, l, 2, everyone...)
	wantSeen(t, l.set(4, 0o700, -1, -1), 2, allRoot, ann)
}

// P19.2

func TestNone(t *testing.T) {
	for _, l := range []nodes{sample(), {}, {1: dir(0)}, {3: file(0, "x")}, chain(0, 12)} {
		wantBy(t, l, l, nil, everyone...)
		wantBy(t, l, l, []int{1, 3}, everyone...)
	}
}

func TestMany(t *testing.T) {
	l := sample()
	for _, after := range []nodes{
		{}, l.less(theTmp, "x").less(theTmp, "y"), l.data(theF, "").data(theG, ""), l.set(theF, 0, -1, -1).set(theG, 0, -1, -1),
		l.with(fresh, file(0, "")), l.more(theD, "n", theF), l.data(theF, "").set(theF, -1, 2, -1), l.with(theF, dir(0)),
	} {
		wantBy(t, l, after, []int{theF, theG})
	}
	wantBy(t, nodes{}, l, nil)
}

func TestOwner(t *testing.T) {
	l := sample()
	// Just root gives away. Of root's no bit is taken, of others' Suid is, and Sgid with the group's X.
	wantBy(t, l, l.set(theF, -1, 2, -1), nil, allRoot)
	wantBy(t, l, l.set(theF, -1, 0, -1), nil, allRoot)
	wantBy(t, l, l.set(theF, 0o755, 2, -1), nil)
	wantBy(t, l, l.set(theF, 0o755, 2, -1), []int{theF})
	wantBy(t, l, l.set(theX, -1, 1, -1), nil, allRoot)
	wantBy(t, l, l.set(theX, -1, 1, 4), nil, allRoot)
	// A group that one is of, of one's own.
	for gid, may := range map[int]bool{0: false, 1: true, 2: false, 4: true, 5: false} {
		wantBy(t, l, l.set(theF, -1, -1, gid), nil, allRoot)
		by := []api.Cred{ann}
		if !may {
			by = nil
		}
		wantBy(t, l, l.set(theF, 0o755, -1, gid), nil, by...)
		wantBy(t, l, l.set(theF, 0o755, -1, gid), []int{theF}, by...)
	}
	wantBy(t, l, l.set(theX, -1, -1, 3), nil, allRoot, bob)
	wantBy(t, l, l.set(theX, -1, -1, 4), nil, allRoot)
	wantBy(t, l, l.set(theX, -1, 1, 3), nil, allRoot)
	// Of a group that who asks isn't of any more, which stays.
	wantBy(t, l.set(theF, -1, 9, -1), l.set(theF, 0o755, 1, -1), nil)
	wantBy(t, l.set(theF, 0o755, 9, -1), l.set(theF, 0o755, 1, -1), nil, allRoot)
	// Links and directories keep their bits.
	wantBy(t, l, l.set(theS, -1, -1, 4), nil, allRoot, ann)
	wantBy(t, l.set(theE, 0o6755, -1, -1), l.set(theE, 0o6755, -1, 4), nil, allRoot, ann)
	wantBy(t, l.set(theE, 0o6755, -1, -1), l.set(theE, 0o755, -1, 4), nil)
	// No other bit goes or comes.
	for _, mode := range []int{0o6755, 0o4755, 0o2755, 0o754, 0o1755, 0o7755, 0} {
		wantBy(t, l, l.set(theF, mode, -1, 4), nil, map[bool][]api.Cred{true: {allRoot}}[mode == 0o6755]...)
	}
	wantBy(t, l.set(theF, 0o6745, -1, -1), l.set(theF, 0o2745, -1, 4), nil, ann)
	wantBy(t, l.set(theF, 0o6745, -1, -1), l.set(theF, 0o745, -1, 4), nil)
	wantBy(t, l.set(theF, 0o2755, -1, -1), l.set(theF, 0o755, -1, 4), nil, ann)
}

func TestOwnerOfWhatIsNotSeen(t *testing.T) {
	l := sample().set(theG, -1, 2, 2)
	wantBy(t, l, l.set(theG, -1, -1, 3), nil, allRoot)
	wantBy(t, l, l.set(theG, -1, -1, 3), []int{theG}, allRoot)
	wantBy(t, l.more(theD, "g", theG), l.more(theD, "g", theG).set(theG, -1, -1, 3), nil, allRoot, bob)
	// Nor root sees what no entry has.
	none := l.less(theShut, "g")
	wantBy(t, none, none.set(theG, -1, -1, 3), []int{theG})
}

func TestMode(t *testing.T) {
	l := sample()
	for _, mode := range []int{0, 0o777, 0o755, 0o1755, 0o4755, 0o5777} {
		wantBy(t, l, l.set(theF, mode, -1, -1), nil, allRoot, ann)
		wantBy(t, l, l.set(theX, mode, -1, -1), nil, allRoot, bob)
		wantBy(t, l, l.set(theE, mode&^0o2000, -1, -1).set(theE, mode|0o2000, -1, -1), nil, allRoot, ann)
	}
	// Sgid of a file is let who is of its group.
	wantBy(t, l, l.set(theF, 0o2755, -1, -1), nil, allRoot)
	wantBy(t, l.set(theF, -1, -1, 4), l.set(theF, 0o2700, -1, 4), nil, allRoot, ann)
	wantBy(t, l.set(theF, -1, -1, 1), l.set(theF, 0o6711, -1, 1), nil, allRoot, ann)
	wantBy(t, l, l.set(theX, 0o2755, -1, -1), nil, allRoot, bob)
	// What a write leaves may be, also where who asks isn't of the group.
	group := l.set(theF, 0o6744, -1, -1)
	wantBy(t, group, group.set(theF, 0o2744, -1, -1), nil, allRoot, ann)
	wantBy(t, group, group.set(theF, 0o2740, -1, -1), nil, allRoot)
	// That is so where the owner may not write, too.
	shut := l.set(theF, 0o6444, -1, -1)
	wantBy(t, shut, shut.set(theF, 0o2444, -1, -1), nil, allRoot, ann)
	wantBy(t, shut, shut.set(theF, 0o2440, -1, -1), nil, allRoot)
	// Directories and node 1.
	wantBy(t, l, l.set(theTmp, 0, -1, -1), nil, allRoot)
	wantBy(t, l, l.set(1, 0o7777, -1, -1), nil, allRoot)
	wantBy(t, l.set(1, 0, 1, -1), l.set(1, 0o700, 1, -1), nil, allRoot, ann)
}

func TestModeOfWhatIsNotSeen(t *testing.T) {
	l := sample().set(theG, 0o644, 2, 2)
	wantBy(t, l, l.set(theG, 0, -1, -1), nil, allRoot)
	wantBy(t, l, l.set(theG, 0, -1, -1), []int{theG}, allRoot)
	none := l.less(theShut, "g")
	wantBy(t, none, none.set(theG, 0, -1, -1), []int{theG})
}

// A write of the bytes that are there takes just bits.
func TestModeOfWhatIsWritten(t *testing.T) {
	l := sample()
	taken := l.set(theF, 0o755, -1, -1)
	wantBy(t, l, taken, nil, allRoot, ann)
	wantBy(t, l, taken, []int{theG}, allRoot, ann)
	// What root writes keeps its bits, but root may take them.
	wantBy(t, l, taken, []int{theF}, everyone...)
	wantBy(t, l, taken, []int{theG, theF, theG}, everyone...)
	for _, mode := range []int{0o4755, 0o2755, 0o754, 0o1755, 0} {
		by := []api.Cred{allRoot, ann}
		if mode&0o2000 != 0 {
			by = by[:1]
		}
		wantBy(t, l, l.set(theF, mode, -1, -1), []int{theF}, by...)
	}
	// Who may write it needs no open one.
	for mode, by := range map[int][]api.Cred{0o6757: {cat, noOne}, 0o6775: {bob}, 0o6777: {bob, cat, noOne}} {
		wantBy(t, l.set(theF, mode, -1, -1), l.set(theF, mode&0o777, -1, -1), nil, append(by, allRoot, ann)...)
	}
	// It is to be seen for that, but not where it is open.
	shut := l.more(theShut, "f", theF).less(theD, "f").set(theF, 0o6777, -1, -1)
	wantBy(t, shut, shut.set(theF, 0o777, -1, -1), nil, allRoot, ann)
	wantBy(t, shut, shut.set(theF, 0o777, -1, -1), []int{theF}, everyone...)
	none := l.less(theD, "f").set(theF, 0o6777, -1, -1)
	wantBy(t, none, none.set(theF, 0o777, -1, -1), nil)
	wantBy(t, none, none.set(theF, 0o777, -1, -1), []int{theF}, ann, bob, cat, noOne)
	// Just files are written. A directory's bits that a write would take stay.
	wantBy(t, l.set(theE, 0o6777, -1, -1), l.set(theE, 0o777, -1, -1), []int{theE}, allRoot, ann)
}

func TestData(t *testing.T) {
	l := sample().set(theF, 0o755, -1, -1)
	for _, s := range []string{"", "z", "ff", strings.Repeat("f", 48)} {
		wantBy(t, l, l.data(theF, s), nil, allRoot, ann)
		wantBy(t, l, l.data(theF, s), []int{theF}, everyone...)
		wantBy(t, l, l.data(theG, s), nil, allRoot, ann)
		wantBy(t, l, l.data(theG, s), []int{theG}, everyone...)
		wantBy(t, l, l.data(theG, s), []int{theF, theX, theY, 1}, allRoot, ann)
		wantBy(t, l, l.data(theX, s), nil, allRoot, bob)
		wantBy(t, l, l.data(theY, s), []int{theX}, allRoot, cat)
	}
	for mode, by := range map[int][]api.Cred{
		0o200: {ann}, 0o020: {bob}, 0o002: {cat, noOne}, 0o555: {}, 0o022: {bob, cat, noOne},
	} {
		m := l.set(theF, mode, -1, -1)
		wantBy(t, m, m.data(theF, "new"), nil, append(by, allRoot)...)
	}
	// Of what no entry has, where it is open, and where it isn't.
	none := l.less(theD, "f")
	wantBy(t, none, none.data(theF, ""), nil)
	wantBy(t, none, none.data(theF, ""), []int{theF}, everyone...)
}

func TestModeOfData(t *testing.T) {
	l := sample().set(theF, 0o6777, -1, -1)
	for mode, by := range map[int][]api.Cred{0o777: {ann, bob, cat, noOne}, 0o6777: {allRoot}, 0o2777: {}, 0o4777: {}, 0o755: {}, 0o1777: {}} {
		wantBy(t, l, l.data(theF, "").set(theF, mode, -1, -1), nil, by...)
		wantBy(t, l, l.data(theF, "").set(theF, mode, -1, -1), []int{theF}, by...)
	}
	// Sgid stays where the group hasn't X.
	l = sample().set(theF, 0o6767, -1, -1)
	wantBy(t, l, l.data(theF, "").set(theF, 0o2767, -1, -1), nil, ann, bob, cat, noOne)
	wantBy(t, l, l.data(theF, "").set(theF, 0o767, -1, -1), nil)
}

// made is some nodes, with one more, as it is made in a directory.
func (l nodes) made(at int, n node.Node, uid, gid int) nodes {
	return l.with(fresh, n).more(at, "n", fresh).set(fresh, -1, uid, gid)
}

func TestMake(t *testing.T) {
	l := sample()
	for _, n := range []node.Node{file(0o644, ""), file(0, ""), file(0o1777, ""), dir(0o755), dir(0o1777), link("x")} {
		wantBy(t, l, l.made(theD, n, 0, 0), nil, allRoot)
		wantBy(t, l, l.made(theD, n, 1, 1), nil, ann)
		wantBy(t, l, l.made(theTmp, n, 2, 2), nil, bob)
		wantBy(t, l, l.made(theTmp, n, 9, 9), nil, cat)
		// The directory's group isn't theirs there, nor one of the others that they are of.
		wantBy(t, l, l.made(theD, n, 1, 3), nil)
		wantBy(t, l, l.made(theD, n, 1, 4), nil)
		wantBy(t, l, l.made(theD, n, 2, 3), nil)
		wantBy(t, l, l.made(theD, n, 1, 2), nil)
		wantBy(t, l, l.made(theD, n, 0, 1), nil)
		// Where they may not write or search.
		wantBy(t, l, l.made(1, n, 1, 1), nil)
		wantBy(t, l, l.made(1, n, 0, 0), nil, allRoot)
		wantBy(t, l, l.made(theShut, n, 1, 1), nil, ann)
		wantBy(t, l, l.made(theShut, n, 2, 2), nil)
		wantBy(t, l, l.made(theE, n, 9, 9), nil)
	}
	for mode, may := range map[int]bool{0o773: true, 0o771: false, 0o772: false, 0o776: false, 0o777: true, 0o770: false} {
		d := l.set(theD, mode, -1, -1)
		wantBy(t, d, d.made(theD, file(0, ""), 9, 9), nil, map[bool][]api.Cred{true: {cat}}[may]...)
	}
	// Where there is no way.
	way := l.set(theE, 0o777, -1, -1)
	wantBy(t, way, way.made(theE, dir(0o700), 9, 9), nil, cat)
	way = way.set(theD, 0o776, -1, -1)
	wantBy(t, way, way.made(theE, dir(0o700), 9, 9), nil)
	wantBy(t, way.less(theD, "e"), way.less(theD, "e").made(theE, dir(0o700), 0, 0), nil)
}

func TestMakeBits(t *testing.T) {
	l := sample()
	set := l.set(theD, 0o2777, -1, -1)
	for bits := range 8 {
		mode := bits<<9 | 0o644
		hasNone, hasSgid := bits&6 == 0, bits&6 == 2
		for _, x := range []struct {
			before nodes
			n      node.Node
			gid    int
			may    bool
		}{
			{l, file(mode, ""), 9, hasNone},
			{l, dir(mode), 9, hasNone},
			{set, file(mode, ""), 3, hasNone},
			{set, dir(mode), 3, hasSgid},
			{set, file(mode, ""), 9, false},
			{set, dir(mode), 9, false},
			{l, file(mode, ""), 3, false},
			{l, dir(mode), 3, false},
		} {
			wantBy(t, x.before, x.before.made(theD, x.n, 9, x.gid), nil, map[bool][]api.Cred{true: {cat}}[x.may]...)
			if x.gid == 9 {
				x.gid = 0
			}
			wantBy(t, x.before, x.before.made(theD, x.n, 0, x.gid), nil, map[bool][]api.Cred{true: {allRoot}}[x.may]...)
		}
	}
	wantBy(t, set, set.made(theD, link("x"), 9, 3), nil, cat)
	wantBy(t, set, set.made(theD, link("x"), 9, 9), nil)
}

func TestMakeBare(t *testing.T) {
	l := sample()
	for _, n := range []node.Node{file(0, "x"), file(0, "\x00"), dir(0o755, ent("a", theF)), dir(0o755, ent("a", fresh)), dir(0o755, ent("a", 12))} {
		wantBy(t, l, l.made(theD, n, 1, 1), nil)
		wantBy(t, l, l.made(theD, n, 0, 0), []int{fresh})
	}
}

func TestTake(t *testing.T) {
	l := sample()
	for _, after := range []nodes{l.less(theD, "f"), l.less(theD, "f").without(theF), l.less(theD, "e").without(theE)} {
		wantBy(t, l, after, nil, everyone...)
		wantBy(t, l.set(theD, 0o755, -1, -1), after.set(theD, 0o755, -1, -1), []int{theF, theE, theD}, allRoot, ann)
		wantBy(t, l.set(theD, 0o766, -1, -1), after.set(theD, 0o766, -1, -1), nil, allRoot, ann)
		wantBy(t, l.set(theD, 0o717, -1, -1), after.set(theD, 0o717, -1, -1), nil, allRoot, ann, cat, noOne)
		wantBy(t, l.set(1, 0o700, -1, -1), after.set(1, 0o700, -1, -1), nil, allRoot)
	}
	wantBy(t, l, l.less(theShut, "g").without(theG), nil, allRoot, ann)
	wantBy(t, l, l.less(1, "s").without(theS), nil, allRoot)
	// With Sticky the directory's owner may, and the node's.
	own := l.set(theTmp, -1, 1, -1)
	wantBy(t, own, own.less(theTmp, "x").without(theX), nil, allRoot, ann, bob)
	wantBy(t, own, own.less(theTmp, "y"), nil, allRoot, ann, cat)
	// Not the owner of what would be taken, where they may not write.
	own = l.set(theTmp, 0o1755, -1, -1)
	wantBy(t, own, own.less(theTmp, "x").without(theX), []int{theX}, allRoot)
	// Where there is no way.
	none := l.less(1, "d")
	wantBy(t, none, none.less(theD, "f"), nil)
}

func TestMove(t *testing.T) {
	l := sample()
	plain := func(l nodes) nodes { return l.less(theTmp, "x").more(theD, "n", theX) }
	wantBy(t, l, plain(l), nil, allRoot, bob)
	for _, x := range []struct {
		before nodes
		may    []api.Cred
	}{
		{l.set(theTmp, 0o777, -1, -1), everyone},
		{l.set(theTmp, 0o777, -1, -1).set(theD, 0o755, -1, -1), []api.Cred{allRoot, ann}},
		{l.set(theTmp, 0o777, -1, -1).set(theD, 0o773, -1, -1), everyone},
		{l.set(theTmp, 0o777, -1, -1).set(theD, 0o772, -1, -1), []api.Cred{allRoot, ann, bob}},
		{l.set(theTmp, 0o777, -1, -1).set(theD, 0o771, -1, -1), []api.Cred{allRoot, ann, bob}},
		{l.set(theTmp, 0o773, -1, -1).set(theD, 0o1777, -1, -1), everyone},
		{l.set(theTmp, 0o772, -1, -1), []api.Cred{allRoot}},
		{l.set(theTmp, 0o771, -1, -1), []api.Cred{allRoot}},
		{l.set(theTmp, 0o1777, 9, -1), []api.Cred{allRoot, bob, cat}},
		{l.set(theX, -1, 9, -1), []api.Cred{allRoot, cat}},
		{l.set(1, 0o700, -1, -1), []api.Cred{allRoot}},
		{l.less(1, "d"), nil},
		{l.less(1, "tmp"), nil},
	} {
		wantBy(t, x.before, plain(x.before), nil, x.may...)
		wantBy(t, x.before, plain(x.before), []int{theX, theD, theTmp}, x.may...)
	}
	// Within one directory.
	wantBy(t, l, l.less(theTmp, "x").more(theTmp, "z", theX), nil, allRoot, bob)
	wantBy(t, l, l.less(theD, "f").more(theD, "z", theF), nil, everyone...)
	wantBy(t, l, l.less(1, "d").more(1, "z", theD), nil, allRoot)
}

func TestMoveOver(t *testing.T) {
	l := sample()
	// f takes the place of x: who may take both away may do so.
	over := func(l nodes) nodes { return l.less(theD, "f").more(theTmp, "x", theF) }
	for _, x := range []struct {
		before nodes
		may    []api.Cred
	}{
		{l, []api.Cred{allRoot, bob}},
		{l.set(theX, -1, 1, -1), []api.Cred{allRoot, ann}},
		{l.set(theTmp, -1, 9, -1), []api.Cred{allRoot, bob, cat}},
		{l.set(theTmp, 0o777, -1, -1), everyone},
		{l.set(theTmp, 0o755, -1, -1), []api.Cred{allRoot}},
		{l.set(theD, 0o1777, -1, -1), []api.Cred{allRoot}},
		{l.set(theD, 0o1777, -1, -1).set(theF, -1, 2, -1), []api.Cred{allRoot, bob}},
		{l.set(theD, 0o755, -1, -1).set(theX, -1, 1, -1), []api.Cred{allRoot, ann}},
	} {
		wantBy(t, x.before, over(x.before), nil, x.may...)
		wantBy(t, x.before, over(x.before).without(theX), []int{theX, theF}, x.may...)
	}
	// x takes the place of y, in one directory with Sticky.
	within := func(l nodes) nodes { return l.less(theTmp, "x").more(theTmp, "y", theX).without(theY) }
	wantBy(t, l, within(l), nil, allRoot)
	wantBy(t, l.set(theY, -1, 2, -1), within(l.set(theY, -1, 2, -1)), nil, allRoot, bob)
	wantBy(t, l.set(theTmp, -1, 2, -1), within(l.set(theTmp, -1, 2, -1)), nil, allRoot, bob)
}

func TestFree(t *testing.T) {
	l := sample()
	wantBy(t, l, l.without(theF), []int{theF})
	wantBy(t, l, l.without(theD), nil)
	wantBy(t, l, l.without(1), nil, everyone...)
	none := l.less(theD, "f").more(theShut, "f", theF)
	wantBy(t, none, none.without(theF), nil)
	none = none.less(theShut, "f")
	wantBy(t, none, none.without(theF), nil, everyone...)
	// An entry to which there is no way is one, too.
	none = none.with(fresh, dir(0, ent("f", theF)))
	wantBy(t, none, none.without(theF), nil)
	wantBy(t, none, none.without(fresh), nil, everyone...)
	itself := l.with(fresh, dir(0, ent("a", fresh)))
	wantBy(t, itself, itself.without(fresh), nil)
}

func TestNil(t *testing.T) {
	some := tableOf(t, 12, sample())
	for _, c := range everyone {
		for _, i := range []int{-1, 0, 1, 2, 24, 25} {
			if Way(nil, c, i) || Seen(nil, c, i) || Way(table.New(24), c, i) || Seen(table.New(24), c, i) {
				t.Errorf("%d of no node", i)
			}
		}
		one := tableOf(t, 12, nodes{4: file(0, "")})
		for _, x := range []struct {
			before, after *table.Table
			want          bool
		}{
			{nil, nil, true}, {nil, table.New(3), true}, {table.New(3), nil, true}, {one, nil, true},
			{nil, one, false}, {nil, some, false}, {some, nil, false},
		} {
			if got := Allowed(c, x.before, x.after); got != x.want {
				t.Errorf("by %d: %v, want %v", c.Uid, got, x.want)
			}
		}
	}
}

// A second reading of the chapter, and of those on which it leans, over maps.

// lets tells whether a node lets who asks do all that some bits let.
func (l nodes) lets(c api.Cred, i, bits int) bool {
	n, is := l[i]
	switch {
	case !is:
		return false
	case c.Uid == 0:
		return true
	case n.Uid == c.Uid:
		return n.Mode>>6&bits == bits
	case isOf(c, n.Gid):
		return n.Mode>>3&bits == bits
	}
	return n.Mode&bits == bits
}

func isOf(c api.Cred, gid int) bool { return gid == c.Gid || slices.Contains(c.Groups, gid) }

// holders is the directories that have an entry of a node, rising.
func (l nodes) holders(i int) []int {
	return slices.DeleteFunc(slices.Sorted(maps.Keys(l)), func(at int) bool {
		return !slices.ContainsFunc(l[at].Ents, func(e node.Ent) bool { return e.Node == i })
	})
}

// reached is the directories to which who asks may come: node 1, and all whose first holder is one that lets them search it.
func (l nodes) reached(c api.Cred) map[int]bool {
	reached := map[int]bool{}
	if l[1].Kind == api.Dir {
		reached[1] = true
	}
	for range l {
		for i, n := range l {
			if up := l.holders(i); n.Kind == api.Dir && len(up) > 0 && reached[up[0]] && l.lets(c, up[0], 1) {
				reached[i] = true
			}
		}
	}
	return reached
}

// seen tells whether a directory to which who asks may come, and which they may search, has an entry of a node.
func (l nodes) seen(c api.Cred, i int) bool {
	_, is := l[i]
	if !is || i == 1 {
		return is
	}
	reached := l.reached(c)
	return slices.ContainsFunc(l.holders(i), func(at int) bool { return reached[at] && l.lets(c, at, 1) })
}

func (l nodes) changes(c api.Cred, at int) bool { return l.reached(c)[at] && l.lets(c, at, 3) }

func (l nodes) takes(c api.Cred, at, i int) bool {
	return l.changes(c, at) && (l[at].Mode&0o1000 == 0 || c.Uid == 0 || c.Uid == l[at].Uid || c.Uid == l[i].Uid)
}

func behindWrite(c api.Cred, n node.Node) int {
	switch {
	case c.Uid == 0 || n.Kind != api.File:
		return n.Mode
	case n.Mode&0o010 != 0:
		return n.Mode & 0o1777
	}
	return n.Mode & 0o3777
}

func reading(c api.Cred, before, after nodes, ch change.Change, writes []int) bool {
	was, is, isRoot := before[ch.Node], after[ch.Node], c.Uid == 0
	written := is.Mode == behindWrite(c, was)
	writable := slices.Contains(writes, ch.Node) || before.seen(c, ch.Node) && before.lets(c, ch.Node, 2)
	switch ch.Kind {
	case change.None:
		return true
	case change.Attr:
		if is.Uid == was.Uid && is.Gid == was.Gid {
			mayHave := isRoot || was.Kind != api.File || is.Mode&0o2000 == 0 || isOf(c, was.Gid)
			return before.seen(c, ch.Node) && (isRoot || was.Uid == c.Uid) && (mayHave || written) ||
				was.Kind == api.File && written && writable
		}
		mayGive := isRoot || was.Uid == c.Uid && is.Uid == was.Uid && isOf(c, is.Gid)
		return before.seen(c, ch.Node) && mayGive && written
	case change.Data:
		return writable && written
	case change.Make:
		at := before[ch.Dir]
		gid, bits := c.Gid, 0
		if at.Mode&0o2000 != 0 {
			gid = at.Gid
			if is.Kind == api.Dir {
				bits = 0o2000
			}
		}
		return before.changes(c, ch.Dir) && is.Uid == c.Uid && is.Gid == gid && is.Mode&0o6000 == bits && node.Size(is)-len(is.Target) == 0
	case change.Take:
		return before.takes(c, ch.Dir, ch.Node)
	case change.Move:
		return before.takes(c, ch.Dir, ch.Node) && before.changes(c, ch.To) && (ch.Over == 0 || before.takes(c, ch.To, ch.Over))
	case change.Free:
		return len(before.holders(ch.Node)) == 0
	}
	return false
}

func someMode(r *rand.Rand) int {
	if r.Intn(4) > 0 {
		return 0o777 | r.Intn(8)<<9
	}
	return r.Intn(4096)
}

func someName(r *rand.Rand) string { return string(rune('a' + r.Intn(4))) }

// someNode is a node by chance, without entries.
func someNode(r *rand.Rand) node.Node {
	n := []node.Node{file(someMode(r), strings.Repeat("x", r.Intn(2))), dir(someMode(r)), dir(someMode(r)), link("x")}[r.Intn(4)]
	n.Uid, n.Gid = r.Intn(3), r.Intn(5)
	return n
}

// someNodes is nodes by chance, which needn't be a tree.
func someNodes(r *rand.Rand, room int) nodes {
	l := nodes{}
	for i := 1; i <= room; i++ {
		if r.Intn(8) == 0 {
			continue
		}
		l[i] = someNode(r)
		if i == 1 {
			l[i] = dir([]int{0o777, someMode(r)}[r.Intn(2)])
		}
	}
	for range r.Intn(3 * room) {
		if i := 1 + r.Intn(room); l[i].Kind == api.Dir {
			l = l.more(i, someName(r), 1+r.Intn(room))
		}
	}
	return l
}

// someStep is nodes, of which one thing is otherwise, as it often may be.
func someStep(r *rand.Rand, c api.Cred, l nodes, room int) nodes {
	i, j := 1+r.Intn(room), 1+r.Intn(room)
	n, is := l[i]
	mode := []int{someMode(r), behindWrite(c, n), n.Mode, n.Mode & 0o777}[r.Intn(4)]
	switch what := min(r.Intn(9), 6); {
	case what == 0 && is:
		return l.without(i)
	case what == 1 && is && n.Kind != api.Link:
		return l.set(i, mode, -1, -1)
	case what == 2 && is:
		if n.Kind == api.Link {
			mode = 511
		}
		return l.set(i, mode, []int{-1, r.Intn(3)}[r.Intn(2)], []int{-1, r.Intn(5)}[r.Intn(2)])
	case what == 3 && n.Kind == api.File:
		return l.set(i, mode, -1, -1).data(i, strings.Repeat("y", r.Intn(3)))
	case what == 4 && len(n.Ents) > 0:
		e := n.Ents[r.Intn(len(n.Ents))]
		if l = l.less(i, e.Name); r.Intn(2) == 0 && e.Node != i {
			l = l.without(e.Node)
		}
		return l
	case what == 5 && len(n.Ents) > 0 && l[j].Kind == api.Dir:
		e, name := n.Ents[r.Intn(len(n.Ents))], someName(r)
		if ents := l[j].Ents; len(ents) > 0 && r.Intn(2) == 0 {
			name = ents[r.Intn(len(ents))].Name
		}
		return l.less(i, e.Name).more(j, name, e.Node)
	case what == 6 && !is && l[j].Kind == api.Dir:
		return l.with(i, someMade(r, c, l[j], i)).more(j, someName(r), i)
	}
	return l
}

// someMade is a node as it is made in a directory, or nearly so.
func someMade(r *rand.Rand, c api.Cred, at node.Node, i int) node.Node {
	n := someNode(r)
	n.Uid, n.Gid, n.Data, n.Mode = max(c.Uid, 0), max(c.Gid, 0), nil, n.Mode&^0o6000
	if at.Mode&0o2000 != 0 {
		n.Gid = at.Gid
		if n.Kind == api.Dir {
			n.Mode |= 0o2000
		}
	}
	if n.Kind == api.Link {
		n.Mode = 511
	}
	switch what := r.Intn(12); {
	case what == 0:
		n.Uid = r.Intn(3)
	case what == 1:
		n.Gid = []int{r.Intn(5), max(c.Gid, 0), at.Gid}[r.Intn(3)]
	case what == 2 && n.Kind != api.Link:
		n.Mode = someMode(r)
	case what == 3 && n.Kind == api.File:
		n.Data = []byte("x")
	case what == 3 && n.Kind == api.Dir:
		n.Ents = []node.Ent{ent("a", i)}
	}
	return n
}

func TestManyTables(t *testing.T) {
	r := rand.New(rand.NewSource(19))
	type answer struct {
		kind       int
		over, is   bool
		ownerOther bool
	}
	cameUp := map[answer]int{}
	for range 30000 {
		room := 1 + r.Intn(7)
		c := everyone[r.Intn(len(everyone))]
		before := someNodes(r, room)
		after := someStep(r, c, before, room)
		writes := r.Perm(room + 2)[:r.Intn(3)]
		x, y := tableOf(t, room, before), tableOf(t, room, after)
		ch := change.Of(x, y)
		want := reading(c, before, after, ch, writes)
		if got := Allowed(c, x, y, writes...); got != want {
			t.Fatalf("by %v: %v, want %v, of %v: %v, of %v, where %v is open", c, got, want, ch, after, before, writes)
		}
		was, is := before[ch.Node], after[ch.Node]
		cameUp[answer{ch.Kind, ch.Over != 0, want, ch.Kind == change.Attr && (was.Uid != is.Uid || was.Gid != is.Gid)}]++
		reached := before.reached(c)
		for i := -1; i <= room+1; i++ {
			if Way(x, c, i) != reached[i] || Seen(x, c, i) != before.seen(c, i) {
				t.Fatalf("of %d, by %v: %v and %v, of %v", i, c, Way(x, c, i), Seen(x, c, i), before)
			}
		}
	}
	for _, is := range []bool{false, true} {
		for kind := change.Attr; kind <= change.Free; kind++ {
			if got := cameUp[answer{kind: kind, is: is}]; got < 60 {
				t.Errorf("%v of kind %d came up %d times alone", is, kind, got)
			}
		}
		for _, a := range []answer{{kind: change.Move, over: true, is: is}, {kind: change.Attr, is: is, ownerOther: true}} {
			if cameUp[a] < 30 {
				t.Errorf("%v came up %d times alone", a, cameUp[a])
			}
		}
	}
	if cameUp[answer{kind: change.None, is: true}] < 100 || cameUp[answer{kind: change.Many}] < 100 {
		t.Error(cameUp)
	}
}

// P19.3, of many systems by chance of one seed.

func somePath(r *rand.Rand, most int) string {
	pieces := []string{"a", "b", "c", "d", "a", "b", "c", "a", "b", "e", ".", "..", "", "nnnnnnnnnnnnn"}
	var names []string
	for range 1 + r.Intn(most) {
		names = append(names, pieces[r.Intn(len(pieces))])
	}
	path := strings.Join(names, "/")
	if path == "" || r.Intn(3) == 0 {
		path = "/" + path
	}
	return path
}

// someTree is a table that is Right, of nodes that were told by chance.
func someTree(r *rand.Rand) *table.Table {
	told := []build.Raw{{Kind: api.Dir, Mode: 0o777 | r.Intn(8)<<9, Uid: r.Intn(3), Gid: r.Intn(5)}}
	room := 2 + r.Intn(api.CapMax)
	x, _, _ := build.Build(room, told)
	for range r.Intn(30) {
		raw := build.Raw{Kind: 1 + r.Intn(4), Mode: someMode(r), Uid: r.Intn(3), Gid: r.Intn(5), Parent: 1 + r.Intn(len(told)), Name: string(rune('a' + r.Intn(5)))}
		switch raw.Kind {
		case api.File:
			raw.Data = make([]byte, r.Intn(3))
		case api.Link:
			raw.Mode, raw.Target = 511, somePath(r, 3)
		case build.Again:
			raw.Node = 1 + r.Intn(len(told))
		}
		more, _, err := build.Build(room, append(slices.Clone(told), raw))
		if err == api.OK {
			x, told = more, append(told, raw)
		}
	}
	return x
}

func someCall(r *rand.Rand) sys.Call {
	kinds := []int{sys.Open, sys.Open, sys.Open, sys.Open, sys.Write, sys.Write, sys.Unlink, sys.Rename, sys.Chown, sys.Chmod}
	kind := 1 + r.Intn(17)
	if r.Intn(2) == 0 {
		kind = kinds[r.Intn(len(kinds))]
	}
	k := sys.Call{Kind: kind, Path: somePath(r, 3), Other: somePath(r, 3), A: someMode(r), B: someMode(r)}
	switch k.Kind {
	case sys.Chown, sys.Lchown:
		k.A, k.B = r.Intn(7)-2, r.Intn(7)-2
	case sys.Open:
		k.A = []int{1, 2, 3, 6, 7, 14, 18, 22, 18, r.Intn(70)}[r.Intn(10)]
	case sys.Read, sys.Write, sys.Close:
		k.A, k.B, k.Data = r.Intn(3), r.Intn(30)-2, make([]byte, r.Intn(4))
	}
	return k
}

// writesOf is the nodes that a process has open for writing.
func writesOf(s *sys.System, pid int) []int {
	var l []int
	for i := range api.FdMax {
		if f := s.Fd(pid, i); f.Write {
			l = append(l, f.Node)
		}
	}
	return l
}

func TestManyCalls(t *testing.T) {
	r := rand.New(rand.NewSource(193))
	cameUp := map[int]int{}
	refused, byOpen := 0, 0
	for range 1000 {
		s := sys.New(someTree(r), r.Intn(512), everyone...)
		last, lastPid := sys.Call{}, 0
		for range 100 {
			pid, k := r.Intn(len(everyone)), someCall(r)
			switch what := r.Intn(6); {
			case what < 2 && last.Kind == sys.Open:
				k.Kind, k.Path = sys.Unlink, last.Path
			case what < 4 && last.Kind == sys.Unlink:
				pid, k = lastPid, sys.Call{Kind: []int{sys.Write, sys.Close}[r.Intn(2)], A: r.Intn(2), Data: []byte("x")}
			}
			before, writes := s.Table(), writesOf(s, pid)
			got := s.Do(pid, k)
			after := s.Table()
			if got.Err == api.OK {
				if k.Kind == sys.Open {
					lastPid = pid
				}
				last = k
			}
			if !Allowed(everyone[pid], before, after, writes...) {
				t.Fatalf("%v, by %v: %v, %v, of %v, where %v is open", k, everyone[pid], got, nodesOf(after), nodesOf(before), writes)
			}
			cameUp[change.Of(before, after).Kind]++
			if !Allowed(everyone[pid], before, after) {
				byOpen++
			}
			// What one did isn't all others'.
			if !Allowed(noOne, before, after) {
				refused++
			}
		}
	}
	for kind := change.None; kind <= change.Free; kind++ {
		if cameUp[kind] < 100 {
			t.Errorf("kind %d came up %d times alone", kind, cameUp[kind])
		}
	}
	if refused < 1000 || byOpen < 100 {
		t.Errorf("%d are no one's, %d need open files", refused, byOpen)
	}
}

// A file that is open for writing may be written, whatever became of it.
func TestOpenFileIsWritten(t *testing.T) {
	x, _, _ := build.Build(9, []build.Raw{
		{Kind: api.Dir, Mode: 0o777}, {Kind: api.File, Mode: 0o4777, Uid: 1, Gid: 3, Parent: 1, Name: "f", Data: []byte("old")},
	})
	s := sys.New(x, 0o022, ann, cat)
	do := func(pid int, k sys.Call, writes []int, alone bool) {
		t.Helper()
		before := s.Table()
		if got := s.Do(pid, k); got.Err != api.OK {
			t.Fatalf("%v: %v", k, got.Err)
		}
		c := []api.Cred{ann, cat}[pid]
		if !Allowed(c, before, s.Table(), writes...) || Allowed(c, before, s.Table()) != alone {
			t.Errorf("%v, of %v: %v", k, writes, nodesOf(s.Table()))
		}
	}
	do(1, sys.Call{Kind: sys.Open, Path: "f", A: files.Write}, nil, true)
	do(0, sys.Call{Kind: sys.Chmod, Path: "f", A: 0o4700}, nil, true)
	do(1, sys.Call{Kind: sys.Write, A: 0, Data: []byte("old")}, []int{2}, false) // just the bit goes
	do(1, sys.Call{Kind: sys.Write, A: 0, Data: []byte("new")}, []int{2}, false)
	do(0, sys.Call{Kind: sys.Unlink, Path: "f"}, nil, true)
	do(1, sys.Call{Kind: sys.Write, A: 0, Data: []byte("x")}, []int{2}, false)
	do(1, sys.Call{Kind: sys.Close, A: 0}, []int{2}, true)
}
