package build

import (
	"fmt"
	"math"
	"math/rand"
	"reflect"
	"slices"
	"strings"
	"testing"

	"gaoler/api"
	"gaoler/node"
	"gaoler/table"
)

// oddNumbers is numbers that no node has, however many there are.
var oddNumbers = []int{math.MinInt, -1 << 32, -24, -1, 0, 25, 26, 1 << 32, 1<<32 + 1, math.MaxInt}

func top() Raw { return Raw{Kind: api.Dir, Mode: 0o755} }

func dirAt(parent int, name string) Raw {
	return Raw{Kind: api.Dir, Mode: 0o2775, Uid: 1, Gid: 2, Parent: parent, Name: name}
}

func fileAt(parent int, name, data string) Raw {
	return Raw{Kind: api.File, Mode: 0o4755, Uid: 2, Gid: 3, Parent: parent, Name: name, Data: []byte(data)}
}

func linkAt(parent int, name, target string) Raw {
	return Raw{Kind: api.Link, Mode: 511, Uid: 3, Gid: 1, Parent: parent, Name: name, Target: target}
}

func againAt(parent int, name string, id int) Raw {
	return Raw{Kind: Again, Parent: parent, Name: name, Node: id}
}

// deep is what is told, in memory of its own, empty lists nil.
func deep(l []Raw) []Raw {
	var fresh []Raw
	for _, raw := range l {
		raw.Data = append([]byte(nil), raw.Data...)
		fresh = append(fresh, raw)
	}
	return fresh
}

func alike(a, b []Raw) bool { return reflect.DeepEqual(deep(a), deep(b)) }

func show(l []Raw) string {
	var told []string
	for _, raw := range l {
		told = append(told, fmt.Sprintf("%d %d/%q %d %.60q", raw.Kind, raw.Parent, raw.Name, raw.Node, raw.Data))
	}
	return "{" + strings.Join(told, "; ") + "}"
}

// nodesOf is all nodes of a table, empty lists nil.
func nodesOf(x *table.Table) map[int]node.Node {
	nodes := map[int]node.Node{}
	for i := range api.CapMax + 2 {
		if n, is := x.Get(i); is {
			n.Data = append([]byte(nil), n.Data...)
			n.Ents = append([]node.Ent(nil), n.Ents...)
			nodes[i] = n
		}
	}
	return nodes
}

func wantBuilt(t *testing.T, room int, l []Raw) *table.Table {
	t.Helper()
	x, place, err := Build(room, l)
	if x == nil || place != 0 || err != api.OK {
		t.Fatalf("Build(%d, %s) = %v, %d, %v", room, show(l), x, place, err)
	}
	if !x.Right() {
		t.Fatalf("Build(%d, %s) isn't Right", room, show(l))
	}
	return x
}

func wantFault(t *testing.T, room int, l []Raw, place int, want api.Errno) {
	t.Helper()
	x, at, err := Build(room, l)
	if x != nil || at != place || err != want {
		t.Errorf("Build(%d, %s) = %v, %d, %v, want nil, %d, %v", room, show(l), x, at, err, place, want)
	}
}

func wantEnts(t *testing.T, x *table.Table, i int, want ...node.Ent) {
	t.Helper()
	if n, is := x.Get(i); !is || !slices.Equal(n.Ents, want) {
		t.Errorf("node %d has the entries %v, want %v", i, n.Ents, want)
	}
}

func wantTold(t *testing.T, x *table.Table, want ...Raw) {
	t.Helper()
	if got := Tell(x); !alike(got, want) {
		t.Errorf("Tell = %s, want %s", show(got), show(want))
	}
}

// A second reading of the chapter, of nodes in a map.

// mayBe tells whether the node of a Raw may be.
func mayBe(raw Raw) bool {
	if raw.Mode < 0 || raw.Mode > 4095 || raw.Uid < 0 || raw.Uid > 65535 || raw.Gid < 0 || raw.Gid > 65535 {
		return false
	}
	data, target := len(raw.Data), len(raw.Target)
	return raw.Kind == api.File && data <= 48 && target == 0 ||
		raw.Kind == api.Dir && data == 0 && target == 0 ||
		raw.Kind == api.Link && data == 0 && raw.Mode == 511 && target > 0 && target <= 64 && !strings.Contains(raw.Target, "\x00")
}

// entryFault is why a node can't have an entry more.
func entryFault(n node.Node, name string) api.Errno {
	switch {
	case n.Kind != api.Dir:
		return api.ENOTDIR
	case name == "" || name == "." || name == ".." || strings.ContainsAny(name, "\x00/"):
		return api.EINVAL
	case len(name) > 12:
		return api.ENAMETOOLONG
	case slices.ContainsFunc(n.Ents, func(e node.Ent) bool { return e.Name == name }):
		return api.EEXIST
	case len(n.Ents) == 8:
		return api.ENOSPC
	}
	return api.OK
}

// newFault is why there can't be the node of a Raw in addition.
func newFault(used, room int, raw Raw) api.Errno {
	if !mayBe(raw) {
		return api.EINVAL
	}
	if used >= room {
		return api.ENOSPC
	}
	return api.OK
}

func againFault(nodes map[int]node.Node, id int) api.Errno {
	switch nodes[id].Kind {
	case 0:
		return api.ENOENT
	case api.Dir:
		return api.EPERM
	}
	return api.OK
}

func secondFault(nodes map[int]node.Node, room, place int, raw Raw) api.Errno {
	if place == 0 {
		if raw.Kind != api.Dir || raw.Parent != 0 || raw.Name != "" {
			return api.EINVAL
		}
		return newFault(0, room, raw)
	}
	if _, is := nodes[raw.Parent]; !is {
		return api.ENOENT
	}
	err := newFault(len(nodes), room, raw)
	if raw.Kind == Again {
		err = againFault(nodes, raw.Node)
	}
	if err != api.OK {
		return err
	}
	return entryFault(nodes[raw.Parent], raw.Name)
}

func secondBuild(room int, l []Raw) (map[int]node.Node, int, api.Errno) {
	if len(l) == 0 {
		return nil, 0, api.EINVAL
	}
	room = min(max(room, 1), 24)
	nodes := map[int]node.Node{}
	for place, raw := range l {
		if err := secondFault(nodes, room, place, raw); err != api.OK {
			return nil, place, err
		}
		id := raw.Node
		if raw.Kind != Again {
			id = len(nodes) + 1
			nodes[id] = node.Node{Kind: raw.Kind, Mode: raw.Mode, Uid: raw.Uid, Gid: raw.Gid, Data: append([]byte(nil), raw.Data...), Target: raw.Target}
		}
		if place > 0 {
			dir := nodes[raw.Parent]
			dir.Ents = append(dir.Ents, node.Ent{Name: raw.Name, Node: id})
			slices.SortFunc(dir.Ents, func(a, b node.Ent) int { return strings.Compare(a.Name, b.Name) })
			nodes[raw.Parent] = dir
		}
	}
	return nodes, 0, api.OK
}

// dirPath is a directory, and the names that lead to it.
type dirPath struct {
	names []string
	id    int
}

func dirPaths(nodes map[int]node.Node, from dirPath) []dirPath {
	all := []dirPath{from}
	for _, e := range nodes[from.id].Ents {
		if nodes[e.Node].Kind == api.Dir {
			all = append(all, dirPaths(nodes, dirPath{append(slices.Clone(from.names), e.Name), e.Node})...)
		}
	}
	return all
}

// secondTell goes by the names that lead to directories: of two that are as deep the one whose names come first was come to first.
func secondTell(nodes map[int]node.Node) []Raw {
	dirs := dirPaths(nodes, dirPath{id: 1})
	slices.SortFunc(dirs, func(a, b dirPath) int {
		if len(a.names) != len(b.names) {
			return len(a.names) - len(b.names)
		}
		return slices.Compare(a.names, b.names)
	})
	rawOf := func(i, parent int, name string) Raw {
		n := nodes[i]
		return Raw{Kind: n.Kind, Mode: n.Mode, Uid: n.Uid, Gid: n.Gid, Parent: parent, Name: name, Data: n.Data, Target: n.Target}
	}
	l, numbers := []Raw{rawOf(1, 0, "")}, map[int]int{1: 1}
	for _, d := range dirs {
		for _, e := range nodes[d.id].Ents {
			if numbers[e.Node] > 0 {
				l = append(l, Raw{Kind: Again, Parent: numbers[d.id], Name: e.Name, Node: numbers[e.Node]})
				continue
			}
			numbers[e.Node] = len(numbers) + 1
			l = append(l, rawOf(e.Node, numbers[d.id], e.Name))
		}
	}
	return l
}

func TestExample(t *testing.T) {
	x := wantBuilt(t, 9, []Raw{top(), fileAt(1, "a", "hi"), againAt(1, "b", 2)})
	if x.Used() != 2 || x.Links(2) != 2 || x.Parent(2) != 1 || x.Room() != 9 {
		t.Errorf("Used %d, Links %d, Parent %d, Room %d", x.Used(), x.Links(2), x.Parent(2), x.Room())
	}
	wantEnts(t, x, 1, node.Ent{Name: "a", Node: 2}, node.Ent{Name: "b", Node: 2})
}

// P10.1

func TestNothingTold(t *testing.T) {
	for _, room := range []int{math.MinInt, -1, 0, 1, 9, 24, 25, math.MaxInt} {
		wantFault(t, room, nil, 0, api.EINVAL)
		wantFault(t, room, []Raw{}, 0, api.EINVAL)
	}
}

func TestFirst(t *testing.T) {
	with := func(change func(raw *Raw)) Raw {
		raw := top()
		change(&raw)
		return raw
	}
	for _, raw := range []Raw{
		{Kind: api.Dir}, {Kind: api.Dir, Mode: 4095, Uid: 65535, Gid: 65535}, {Kind: api.Dir, Data: []byte{}}, {Kind: api.Dir, Node: 7}, {Kind: api.Dir, Node: -1},
	} {
		x := wantBuilt(t, 1, []Raw{raw})
		if x.Used() != 1 {
			t.Errorf("%+v: Used = %d", raw, x.Used())
		}
		wantTold(t, x, Raw{Kind: api.Dir, Mode: raw.Mode, Uid: raw.Uid, Gid: raw.Gid})
	}
	wrong := []Raw{{}, fileAt(0, "", ""), linkAt(0, "", "a"), againAt(0, "", 1), againAt(0, "", 0), againAt(1, "a", 1)}
	for _, kind := range []int{math.MinInt, -1, 0, 1, 3, 4, 5, 1<<32 + 2, math.MaxInt} {
		wrong = append(wrong, with(func(raw *Raw) { raw.Kind = kind }))
	}
	for _, parent := range append([]int{1, 2}, oddNumbers...) {
		if parent != 0 {
			wrong = append(wrong, with(func(raw *Raw) { raw.Parent = parent }))
		}
	}
	for _, name := range []string{"a", ".", "..", "/", "\x00", "root"} {
		wrong = append(wrong, with(func(raw *Raw) { raw.Name = name }))
	}
	// The node of it may not be.
	for _, id := range []int{-1, 65536, math.MinInt, math.MaxInt} {
		wrong = append(wrong, with(func(raw *Raw) { raw.Mode = id }), with(func(raw *Raw) { raw.Uid = id }), with(func(raw *Raw) { raw.Gid = id }))
	}
	wrong = append(wrong, with(func(raw *Raw) { raw.Mode = 4096 }), with(func(raw *Raw) { raw.Data = []byte("x") }), with(func(raw *Raw) { raw.Target = "a" }))
	for _, raw := range wrong {
		wantFault(t, 9, []Raw{raw}, 0, api.EINVAL)
		// Those behind play no part.
		wantFault(t, 9, []Raw{raw, fileAt(7, "a", "")}, 0, api.EINVAL)
		wantFault(t, 9, []Raw{raw, top(), fileAt(1, "a", "")}, 0, api.EINVAL)
	}
}

func TestRoom(t *testing.T) {
	for _, c := range []struct{ room, want int }{
		{math.MinInt, 1}, {-1, 1}, {0, 1}, {1, 1}, {2, 2}, {12, 12}, {23, 23}, {24, 24}, {25, 24}, {math.MaxInt, 24},
	} {
		l := []Raw{top()}
		for i := 2; i <= c.want; i++ {
			l = append(l, dirAt(i-1, "d"))
		}
		x := wantBuilt(t, c.room, l)
		if x.Room() != c.want || x.Used() != c.want {
			t.Errorf("Build(%d): Room %d, Used %d, want %d", c.room, x.Room(), x.Used(), c.want)
		}
		for _, raw := range []Raw{dirAt(1, "a"), fileAt(1, "a", ""), linkAt(1, "a", "b")} {
			wantFault(t, c.room, append(slices.Clone(l), raw), c.want, api.ENOSPC)
		}
	}
}

// TestParents: it must be told ahead, and Again tells no node.
func TestParents(t *testing.T) {
	for _, parent := range append([]int{2, 3, 24}, oddNumbers...) {
		for _, raw := range []Raw{dirAt(parent, "a"), fileAt(parent, "a", ""), linkAt(parent, "a", "b"), againAt(parent, "a", 1)} {
			wantFault(t, 9, []Raw{top(), raw}, 1, api.ENOENT)
			wantFault(t, 9, []Raw{top(), raw, dirAt(1, "d")}, 1, api.ENOENT)
		}
	}
	l := []Raw{top(), fileAt(1, "a", ""), againAt(1, "b", 2), againAt(1, "c", 2), dirAt(1, "d")}
	wantFault(t, 9, append(slices.Clone(l), fileAt(4, "e", "")), 5, api.ENOENT)
	wantFault(t, 9, append(slices.Clone(l), fileAt(5, "e", "")), 5, api.ENOENT)
	x := wantBuilt(t, 9, append(l, fileAt(3, "e", "")))
	wantEnts(t, x, 3, node.Ent{Name: "e", Node: 4})
}

// TestOrderOfFaults: of those that hold the first one is told.
func TestOrderOfFaults(t *testing.T) {
	l := []Raw{top(), fileAt(1, "f", "x"), linkAt(1, "s", "f"), dirAt(1, "d")}
	for i := range 8 {
		l = append(l, againAt(4, string(rune('a'+i)), 2))
	}
	wrong := func(raw Raw) Raw {
		raw.Mode = 4096
		return raw
	}
	for i, c := range []struct {
		room int
		raw  Raw
		want api.Errno
	}{
		// There is no node Parent: whatever else is wrong.
		{4, wrong(fileAt(5, "", "")), api.ENOENT}, {4, againAt(5, "f", 1), api.ENOENT}, {4, Raw{Kind: 9, Name: "/"}, api.ENOENT},
		// The node may not be: ahead of the room, and of the entry.
		{4, wrong(fileAt(1, "a", "")), api.EINVAL}, {9, wrong(fileAt(2, "a", "")), api.EINVAL}, {9, wrong(fileAt(1, "f", "")), api.EINVAL}, {9, wrong(fileAt(1, "muchtoolonganame", "")), api.EINVAL}, {9, wrong(fileAt(4, "x", "")), api.EINVAL},
		{4, Raw{Kind: 5, Parent: 1, Name: "a"}, api.EINVAL}, {9, Raw{Kind: 0, Parent: 3, Name: "a"}, api.EINVAL},
		// There is no room: ahead of the entry.
		{4, fileAt(2, "a", ""), api.ENOSPC}, {4, dirAt(3, ""), api.ENOSPC}, {4, linkAt(1, "..", "a"), api.ENOSPC}, {4, fileAt(1, "muchtoolonganame", ""), api.ENOSPC}, {4, dirAt(1, "f"), api.ENOSPC}, {4, dirAt(4, "x"), api.ENOSPC},
		// There is no node Node, or it is a Dir: ahead of the entry, and of no room.
		{9, againAt(2, "", 5), api.ENOENT}, {9, againAt(1, "f", 0), api.ENOENT}, {4, againAt(4, "x", -2), api.ENOENT}, {9, againAt(1, "/", 24), api.ENOENT}, {9, againAt(1, "muchtoolonganame", 1<<32), api.ENOENT},
		{9, againAt(2, "a", 1), api.EPERM}, {4, againAt(1, "", 4), api.EPERM}, {9, againAt(4, "x", 4), api.EPERM}, {9, againAt(1, "f", 1), api.EPERM}, {9, againAt(1, "g", 4), api.EPERM},
		// The entry.
		{9, fileAt(2, "a", ""), api.ENOTDIR}, {9, dirAt(2, ""), api.ENOTDIR}, {9, linkAt(3, "f", "a"), api.ENOTDIR}, {9, fileAt(3, "muchtoolonganame", ""), api.ENOTDIR}, {9, againAt(2, "a", 2), api.ENOTDIR}, {4, againAt(3, "..", 3), api.ENOTDIR},
		{9, fileAt(1, "", ""), api.EINVAL}, {9, dirAt(1, "."), api.EINVAL}, {9, linkAt(4, "..", "a"), api.EINVAL}, {9, fileAt(1, "a/b", ""), api.EINVAL}, {9, fileAt(1, "\x00", ""), api.EINVAL}, {9, fileAt(1, "muchtoolonganame/", ""), api.EINVAL}, {4, againAt(4, "", 2), api.EINVAL}, {9, againAt(1, "/", 3), api.EINVAL},
		{9, fileAt(1, "thirteenbytes", ""), api.ENAMETOOLONG}, {9, dirAt(4, "thirteenbytes"), api.ENAMETOOLONG}, {4, againAt(4, "thirteenbytes", 2), api.ENAMETOOLONG},
		{9, fileAt(1, "f", ""), api.EEXIST}, {9, dirAt(1, "s"), api.EEXIST}, {9, linkAt(4, "a", "b"), api.EEXIST}, {4, againAt(1, "f", 2), api.EEXIST}, {9, againAt(4, "h", 3), api.EEXIST},
		{9, fileAt(4, "x", ""), api.ENOSPC}, {9, dirAt(4, "twelve_bytes"), api.ENOSPC}, {4, againAt(4, "x", 2), api.ENOSPC},
		// None: Again takes no number, so that it wants no room.
		{4, againAt(1, "g", 2), api.OK}, {4, againAt(1, "g", 3), api.OK}, {9, fileAt(1, "twelve_bytes", ""), api.OK}, {5, dirAt(1, "a"), api.OK},
	} {
		told := append(slices.Clone(l), c.raw)
		if c.want == api.OK {
			wantBuilt(t, c.room, told)
			continue
		}
		if x, at, err := Build(c.room, told); x != nil || at != len(l) || err != c.want {
			t.Errorf("%d: %+v: %d, %v, want %d, %v", i, c.raw, at, err, len(l), c.want)
		}
		// What is wrong behind it plays no part.
		wantFault(t, c.room, append(told, fileAt(99, "", "")), len(l), c.want)
	}
}

// TestPlaces: the first one that is wrong is told, wherever it stands.
func TestPlaces(t *testing.T) {
	l := []Raw{top(), fileAt(1, "a", ""), againAt(1, "b", 2), dirAt(1, "c"), linkAt(3, "a", "x"), againAt(3, "b", 4), fileAt(3, "c", "y")}
	wantBuilt(t, 9, l)
	for place := 1; place < len(l); place++ {
		wantFault(t, 9, slices.Insert(slices.Clone(l), place, fileAt(9, "z", "")), place, api.ENOENT)
		wantFault(t, 9, slices.Insert(slices.Clone(l), place, top()), place, api.ENOENT)
		wantFault(t, 9, slices.Insert(slices.Clone(l), place, dirAt(1, "/"), fileAt(9, "z", "")), place, api.EINVAL)
		wantFault(t, 9, slices.Insert(slices.Clone(l), place, againAt(1, "z", 1), fileAt(9, "z", "")), place, api.EPERM)
	}
}

func TestAgain(t *testing.T) {
	l := []Raw{top(), fileAt(1, "f", "x"), linkAt(1, "s", "f"), dirAt(1, "d"), againAt(4, "f", 2), againAt(4, "s", 3), againAt(1, "g", 2)}
	// Nothing else that is told with it counts.
	l = append(l, Raw{Kind: Again, Mode: -1, Uid: 1 << 20, Gid: -9, Parent: 4, Name: "e", Data: make([]byte, 99), Target: "\x00", Node: 2})
	x := wantBuilt(t, 4, l)
	if x.Used() != 4 || x.Links(2) != 4 || x.Links(3) != 2 || x.Links(4) != 1 {
		t.Errorf("Used %d, Links %d, %d, %d", x.Used(), x.Links(2), x.Links(3), x.Links(4))
	}
	wantEnts(t, x, 1, node.Ent{Name: "d", Node: 4}, node.Ent{Name: "f", Node: 2}, node.Ent{Name: "g", Node: 2}, node.Ent{Name: "s", Node: 3})
	wantEnts(t, x, 4, node.Ent{Name: "e", Node: 2}, node.Ent{Name: "f", Node: 2}, node.Ent{Name: "s", Node: 3})
	if n, _ := x.Get(2); !node.Same(n, node.Node{Kind: api.File, Mode: 0o4755, Uid: 2, Gid: 3, Data: []byte("x")}) {
		t.Errorf("node 2 is %+v", n)
	}
	for _, id := range append([]int{5, 24}, oddNumbers...) {
		wantFault(t, 9, append(slices.Clone(l), againAt(1, "z", id)), len(l), api.ENOENT)
	}
	for _, id := range []int{1, 4} {
		wantFault(t, 9, append(slices.Clone(l), againAt(1, "z", id)), len(l), api.EPERM)
	}
}

// TestFullDirs: a directory has EntMax entries at most, whatever tells them.
func TestFullDirs(t *testing.T) {
	for mask := range 1 << api.EntMax {
		l := []Raw{top(), dirAt(1, "d"), fileAt(1, "f", "")}
		for i := range api.EntMax {
			name := string(rune('a' + (i*5)%8))
			if mask>>i&1 == 1 {
				l = append(l, againAt(2, name, 3))
			} else {
				l = append(l, fileAt(2, name, name))
			}
		}
		n, _ := wantBuilt(t, 24, l).Get(2)
		if got := strings.Join(node.Names(n), ""); got != "abcdefgh" {
			t.Fatalf("%s: the names %s", show(l), got)
		}
		wantFault(t, 24, append(slices.Clone(l), againAt(2, "z", 3)), len(l), api.ENOSPC)
		wantFault(t, 24, append(slices.Clone(l), dirAt(2, "z")), len(l), api.ENOSPC)
		wantBuilt(t, 24, append(l, dirAt(1, "z")))
	}
}

// TestHandedInIsNotKept: nor is it changed.
func TestHandedInIsNotKept(t *testing.T) {
	l := []Raw{top(), fileAt(1, "f", "hi"), linkAt(1, "s", "f"), againAt(1, "g", 2)}
	was := deep(l)
	x := wantBuilt(t, 9, l)
	if !alike(l, was) {
		t.Errorf("Build makes of what is handed in %s", show(l))
	}
	nodes := nodesOf(x)
	copy(l[1].Data, "ho")
	for i := range l {
		l[i] = Raw{}
	}
	if !reflect.DeepEqual(nodesOf(x), nodes) {
		t.Error("who changes what was handed in changes the table")
	}
	one, two := wantBuilt(t, 9, was), wantBuilt(t, 9, was)
	one.Drop(2)
	if !two.Same(x) {
		t.Error("two trees share memory")
	}
}

// P10.2

func TestNodeOfRaw(t *testing.T) {
	for _, raw := range []Raw{
		{Kind: api.File}, {Kind: api.Dir}, {Kind: api.Link, Mode: 511, Target: "/"},
		{Kind: api.File, Mode: 1, Uid: 2, Gid: 3, Data: []byte("\x00/\xff")}, {Kind: api.File, Mode: 4095, Uid: 65535, Gid: 65535, Data: make([]byte, 48)},
		{Kind: api.Dir, Mode: 4, Uid: 5, Gid: 6, Data: []byte{}}, {Kind: api.Link, Mode: 511, Uid: 7, Gid: 8, Target: strings.Repeat("/", 64)},
	} {
		for _, id := range []int{0, 1, 2, -1, math.MaxInt} {
			raw.Parent, raw.Name, raw.Node = 1, "a", id
			x := wantBuilt(t, 9, []Raw{top(), raw})
			want := node.Node{Kind: raw.Kind, Mode: raw.Mode, Uid: raw.Uid, Gid: raw.Gid, Data: raw.Data, Target: raw.Target}
			if n, is := x.Get(2); !is || !node.Same(n, want) || x.Used() != 2 {
				t.Errorf("%+v: node 2 is %+v, %v", raw, n, is)
			}
		}
	}
}

func TestWrongNodes(t *testing.T) {
	for _, raw := range []Raw{
		{}, {Kind: -1}, {Kind: 5}, {Kind: 1<<32 + 1}, {Kind: math.MinInt}, {Kind: math.MaxInt},
		{Kind: api.File, Mode: 4096}, {Kind: api.File, Mode: -1}, {Kind: api.File, Uid: 65536}, {Kind: api.File, Uid: -1}, {Kind: api.File, Gid: 65536}, {Kind: api.File, Gid: -1},
		{Kind: api.File, Data: make([]byte, 49)}, {Kind: api.File, Target: "a"}, {Kind: api.Dir, Data: []byte("a")}, {Kind: api.Dir, Target: "a"}, {Kind: api.Dir, Mode: 1 << 32},
		{Kind: api.Link, Mode: 511}, {Kind: api.Link, Target: "a"}, {Kind: api.Link, Mode: 510, Target: "a"}, {Kind: api.Link, Mode: 1023, Target: "a"}, {Kind: api.Link, Mode: 511, Target: "a\x00"}, {Kind: api.Link, Mode: 511, Target: strings.Repeat("a", 65)}, {Kind: api.Link, Mode: 511, Target: "a", Data: []byte("a")},
	} {
		raw.Parent, raw.Name = 1, "a"
		wantFault(t, 9, []Raw{top(), raw}, 1, api.EINVAL)
		wantFault(t, 1, []Raw{top(), raw}, 1, api.EINVAL)
	}
}

// P10.3

func TestTell(t *testing.T) {
	wantTold(t, wantBuilt(t, 1, []Raw{top()}), top())
	// Entries are told by rising names, and those of a directory behind all that was come to ahead of it.
	x := wantBuilt(t, 24, []Raw{
		top(), fileAt(1, "m", "x"), dirAt(1, "z"), dirAt(1, "b"), linkAt(4, "q", "m"), dirAt(3, "a"), fileAt(6, "b", "deep"), againAt(4, "a", 2), againAt(6, "a", 5), againAt(3, "b", 7), dirAt(4, "p"), againAt(1, "a", 2),
	})
	wantTold(t, x,
		top(),
		fileAt(1, "a", "x"), dirAt(1, "b"), againAt(1, "m", 2), dirAt(1, "z"),
		againAt(3, "a", 2), dirAt(3, "p"), linkAt(3, "q", "m"),
		dirAt(4, "a"), fileAt(4, "b", "deep"),
		againAt(7, "a", 6), againAt(7, "b", 8),
	)
	// Names rise by their bytes.
	x = wantBuilt(t, 24, []Raw{top(), fileAt(1, "b", ""), fileAt(1, "ab", ""), fileAt(1, "\xff", ""), fileAt(1, "B", ""), fileAt(1, "a", ""), fileAt(1, "é", ""), fileAt(1, " ", "")})
	wantTold(t, x, top(), fileAt(1, " ", ""), fileAt(1, "B", ""), fileAt(1, "a", ""), fileAt(1, "ab", ""), fileAt(1, "b", ""), fileAt(1, "é", ""), fileAt(1, "\xff", ""))
}

// TestTellOfWrongTables: nothing, also of those that were Right with open ones.
func TestTellOfWrongTables(t *testing.T) {
	of := func(nodes ...node.Node) *table.Table {
		x := table.New(api.CapMax)
		for _, n := range nodes {
			if _, err := x.Add(n); err != api.OK {
				t.Fatal(err)
			}
		}
		return x
	}
	dir := func(ids ...int) node.Node {
		n := node.Node{Kind: api.Dir}
		for i, id := range ids {
			n.Ents = append(n.Ents, node.Ent{Name: string(rune('a' + i)), Node: id})
		}
		return n
	}
	file, link := node.Node{Kind: api.File}, node.Node{Kind: api.Link, Mode: 511, Target: "a"}
	for i, x := range []*table.Table{
		nil, of(), of(file), of(link), of(dir(1)), of(dir(2)), of(dir(), file), of(dir(), link), of(dir(), dir()), of(dir(2, 2), dir()), of(dir(2), dir(1)), of(dir(), dir(2)), of(dir(), dir(3), dir(2)), of(dir(2, 3), dir(3), dir()), of(file, dir(1)), of(dir(25)), of(dir(2, 9), file),
	} {
		if got := Tell(x); len(got) != 0 {
			t.Errorf("%d: Tell = %s", i, show(got))
		}
	}
	x := of(dir(2), file)
	wantTold(t, x, Raw{Kind: api.Dir}, Raw{Kind: api.File, Parent: 1, Name: "a"})
	x.Drop(1)
	wantTold(t, x)
}

func TestTellInNewMemory(t *testing.T) {
	x := wantBuilt(t, 9, []Raw{top(), fileAt(1, "f", "hi"), fileAt(1, "g", "hi"), againAt(1, "h", 2)})
	nodes, was := nodesOf(x), deep(Tell(x))
	one, two := Tell(x), Tell(x)
	copy(one[1].Data, "ho")
	_ = append(one[1].Data, 'X')
	for i := range one {
		one[i].Name = "changed"
	}
	if !reflect.DeepEqual(nodesOf(x), nodes) || !alike(two, was) || !alike(Tell(x), was) || string(one[2].Data) != "hi" {
		t.Errorf("who changes an answer changes more: %s", show(two))
	}
	x.Put(2, node.Node{Kind: api.File, Data: []byte("new")})
	if !alike(two, was) {
		t.Errorf("who changes the table changes an answer: %s", show(two))
	}
}

// P10.4, and all of it

// someRaw is one that mostly may be told behind those so far.
func someRaw(chance *rand.Rand, so []Raw) Raw {
	used := 0
	for _, raw := range so {
		if raw.Kind != Again {
			used++
		}
	}
	names := []string{"a", "b", "c", "d", "e", "f", "g", "h", "ab", "twelve_bytes", "\xff"}
	raw := Raw{Parent: 1 + chance.Intn(used+1), Name: names[chance.Intn(len(names))], Mode: chance.Intn(4096), Uid: chance.Intn(3), Gid: chance.Intn(3)}
	switch chance.Intn(7) {
	case 0, 1, 2:
		raw.Kind = api.Dir
	case 3:
		raw.Kind, raw.Data = api.File, []byte(strings.Repeat("x", chance.Intn(49)))
	case 4:
		raw.Kind, raw.Mode, raw.Target = api.Link, 511, strings.Repeat("a", 1+chance.Intn(64))
	default:
		raw.Kind, raw.Node = Again, 1+chance.Intn(used+1)
	}
	if chance.Intn(20) > 0 {
		return raw
	}
	wrong := []func(){
		func() { raw.Mode = 4096 }, func() { raw.Uid = -1 }, func() { raw.Name = "thirteenbytes" }, func() { raw.Name = "a/" }, func() { raw.Name = "" }, func() { raw.Kind = chance.Intn(7) - 1 }, func() { raw.Parent = chance.Intn(3) - 1 }, func() { raw.Node = chance.Intn(3) - 1 }, func() { raw.Data = make([]byte, 49) }, func() { raw.Target = "a" },
	}
	wrong[chance.Intn(len(wrong))]()
	return raw
}

// hold asks of a list, and of the tree of it, all that is promised, and tells whether there is one.
func hold(t *testing.T, room int, l []Raw) bool {
	t.Helper()
	x, place, err := Build(room, l)
	nodes, wantPlace, wantErr := secondBuild(room, l)
	if place != wantPlace || err != wantErr || (x == nil) != (nodes == nil) {
		t.Fatalf("Build(%d, %s) = %d, %v, want %d, %v", room, show(l), place, err, wantPlace, wantErr)
	}
	if x == nil {
		return false
	}
	if !reflect.DeepEqual(nodesOf(x), nodes) || x.Room() != min(max(room, 1), 24) || !x.Right() {
		t.Fatalf("Build(%d, %s) has %+v, want %+v", room, show(l), nodesOf(x), nodes)
	}
	told := Tell(x)
	if want := secondTell(nodes); !alike(told, want) {
		t.Fatalf("Tell = %s, want %s", show(told), show(want))
	}
	if !reflect.DeepEqual(nodesOf(x), nodes) {
		t.Fatal("Tell changes the table")
	}
	wantTold(t, wantBuilt(t, room, told), told...)
	return true
}

// TestManyLists: lists with a seed that stays, held against the second reading, each of their beginnings, too.
func TestManyLists(t *testing.T) {
	chance := rand.New(rand.NewSource(10))
	for range 1500 {
		room, l := chance.Intn(30)-2, []Raw{top()}
		for range 40 {
			raw := someRaw(chance, l)
			if hold(t, room, append(slices.Clone(l), raw)) {
				l = append(l, raw)
			}
		}
		at := chance.Intn(len(l))
		hold(t, room, slices.Delete(slices.Clone(l), at, at+1))
		hold(t, room, slices.Insert(slices.Clone(l), at, someRaw(chance, l)))
	}
}

// TestTellOfOtherNumbers: which numbers nodes have in a table plays no part, nor do those that are free.
func TestTellOfOtherNumbers(t *testing.T) {
	chance := rand.New(rand.NewSource(11))
	for range 1500 {
		l := []Raw{top()}
		for range 20 + chance.Intn(30) {
			if more := append(slices.Clone(l), someRaw(chance, l)); hold(t, api.CapMax, more) {
				l = more
			}
		}
		x := wantBuilt(t, api.CapMax, l)
		number := map[int]int{1: 1}
		for i, other := range chance.Perm(api.CapMax - 1) {
			number[i+2] = other + 2
		}
		y := table.New(api.CapMax)
		for range api.CapMax {
			y.Add(node.Node{Kind: api.File})
		}
		for i, other := range number {
			n, is := x.Get(i)
			for k := range n.Ents {
				n.Ents[k].Node = number[n.Ents[k].Node]
			}
			if is && y.Put(other, n) != api.OK || !is && !y.Drop(other) {
				t.Fatalf("node %d can't be %d", i, other)
			}
		}
		wantTold(t, y, Tell(x)...)
	}
}

// TestAllSmallLists: all lists of up to three behind the first one, of few that may be told, held against the second reading.
func TestAllSmallLists(t *testing.T) {
	var all []Raw
	for _, parent := range []int{1, 2, 3} {
		for _, name := range []string{"a", "b", "/"} {
			all = append(all, dirAt(parent, name), fileAt(parent, name, name), againAt(parent, name, 2), againAt(parent, name, 3))
		}
	}
	all = append(all, linkAt(1, "b", "a"), fileAt(0, "a", ""), Raw{Kind: api.File, Parent: 1, Name: "b", Mode: -1})
	for room := 1; room <= 4; room++ {
		for _, a := range all {
			hold(t, room, []Raw{a})
			if !hold(t, room, []Raw{top(), a}) {
				continue
			}
			for _, b := range all {
				if !hold(t, room, []Raw{top(), a, b}) {
					continue
				}
				for _, c := range all {
					hold(t, room, []Raw{top(), a, b, c})
				}
			}
		}
	}
}

// TestDeepAndBroadTrees: as deep, and as broad, as there is room.
func TestDeepAndBroadTrees(t *testing.T) {
	deepest, broadest := []Raw{top()}, []Raw{top()}
	for i := 1; i < api.CapMax; i++ {
		deepest = append(deepest, dirAt(i, "d"))
		broadest = append(broadest, dirAt((i+7)/8, string(rune('a'+(i-1)%8))))
	}
	wantTold(t, wantBuilt(t, api.CapMax, deepest), deepest...)
	wantTold(t, wantBuilt(t, api.CapMax, broadest), broadest...)
	// Each directory is as full as it may be.
	fullest := []Raw{top(), fileAt(1, "a", "x"), dirAt(1, "z")}
	for i := 3; i < api.CapMax; i++ {
		fullest = append(fullest, dirAt(i, "z"))
	}
	for _, name := range "bcdefghi" {
		for i := 1; i <= api.CapMax; i++ {
			raw := againAt(i, string(name), 2)
			if x, _, _ := Build(api.CapMax, append(slices.Clone(fullest), raw)); x != nil {
				fullest = append(fullest, raw)
			}
		}
	}
	x := wantBuilt(t, api.CapMax, fullest)
	if !hold(t, api.CapMax, fullest) || len(Tell(x)) != 185 || x.Links(2) != 162 {
		t.Errorf("of a full tree %d are told, and a File has %d entries", len(Tell(x)), x.Links(2))
	}
}
