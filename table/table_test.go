package table

import (
	"fmt"
	"math"
	"math/rand"
	"reflect"
	"slices"
	"strings"
	"testing"

	"gaoler/api"
	"gaoler/node"
)

// oddNumbers is numbers that no node of any table has.
var oddNumbers = []int{math.MinInt, math.MinInt + 1, -1 << 32, -25, -24, -1, 0, 25, 26, 1 << 32, 1<<32 + 1, math.MaxInt - 1, math.MaxInt}

// dir is a directory whose entries a, b, c and so on have these nodes.
func dir(ids ...int) node.Node {
	n := node.Node{Kind: api.Dir, Mode: 0o755}
	for i, id := range ids {
		n.Ents = append(n.Ents, node.Ent{Name: string(rune('a' + i)), Node: id})
	}
	return n
}

func file(data string) node.Node { return node.Node{Kind: api.File, Data: []byte(data)} }

func link(target string) node.Node { return node.Node{Kind: api.Link, Mode: 511, Target: target} }

// tableOf is a table with room for all, with these as nodes 1, 2 and so on; of a zero one there is no node.
func tableOf(t *testing.T, nodes ...node.Node) *Table {
	t.Helper()
	x := New(api.CapMax)
	for i, n := range nodes {
		if n.Kind == 0 {
			n = file("")
		}
		if id, err := x.Add(n); id != i+1 || err != api.OK {
			t.Fatalf("Add(%+v) = %d, %v, want %d", n, id, err, i+1)
		}
	}
	for i, n := range nodes {
		if n.Kind == 0 && !x.Drop(i+1) {
			t.Fatalf("Drop(%d) is false", i+1)
		}
	}
	return x
}

// deep is a node that shares no memory with n, empty lists nil, as far as reflect tells.
func deep(n node.Node) node.Node {
	n.Data = append([]byte(nil), n.Data...)
	n.Ents = append([]node.Ent(nil), n.Ents...)
	return n
}

func equal(a, b node.Node) bool { return reflect.DeepEqual(deep(a), deep(b)) }

// nodesOf is all that a table tells of its nodes.
func nodesOf(x *Table) map[int]node.Node {
	nodes := map[int]node.Node{}
	for i := -2; i <= api.CapMax+2; i++ {
		if n, is := x.Get(i); is {
			nodes[i] = deep(n)
		}
	}
	return nodes
}

func show(x *Table) string {
	nodes := nodesOf(x)
	var told []string
	for i := range api.CapMax + 1 {
		if n, is := nodes[i]; is {
			told = append(told, fmt.Sprintf("%d: %d%v", i, n.Kind, n.Ents))
		}
	}
	return "{" + strings.Join(told, "; ") + "}"
}

func wantRight(t *testing.T, x *Table, want bool, open ...int) {
	t.Helper()
	if got := x.Right(open...); got != want {
		t.Errorf("%s: Right(%v) = %v", show(x), open, got)
	}
}

func wantGet(t *testing.T, x *Table, i int, want node.Node) {
	t.Helper()
	if got, is := x.Get(i); !is || !equal(got, want) {
		t.Errorf("Get(%d) = %+v, %v, want %+v", i, got, is, want)
	}
}

func wantNone(t *testing.T, x *Table, i int) {
	t.Helper()
	if got, is := x.Get(i); is || !equal(got, node.Node{}) {
		t.Errorf("Get(%d) = %+v, %v, want none", i, got, is)
	}
}

func wantAdd(t *testing.T, x *Table, n node.Node, id int, want api.Errno) {
	t.Helper()
	if got, err := x.Add(n); got != id || err != want {
		t.Errorf("Add(%+v) = %d, %v, want %d, %v", n, got, err, id, want)
	}
}

// A second reading of the chapter, of nodes in a map.

type second struct {
	room  int
	nodes map[int]node.Node
}

func (s second) links(i int) int {
	count := 0
	for _, n := range s.nodes {
		for _, e := range n.Ents {
			if n.Kind == api.Dir && e.Node == i {
				count++
			}
		}
	}
	return count
}

func (s second) parent(i int) int {
	least := 0
	for d, n := range s.nodes {
		for _, e := range n.Ents {
			if n.Kind == api.Dir && e.Node == i && (least == 0 || d < least) {
				least = d
			}
		}
	}
	return least
}

// reached gathers the directories to which one comes from i, going down.
func (s second) reached(i int, seen map[int]bool) {
	if s.nodes[i].Kind != api.Dir || seen[i] {
		return
	}
	seen[i] = true
	for _, e := range s.nodes[i].Ents {
		s.reached(e.Node, seen)
	}
}

func (s second) right(open []int) bool {
	if s.nodes[1].Kind != api.Dir || s.links(1) > 0 {
		return false
	}
	seen := map[int]bool{}
	s.reached(1, seen)
	for i, n := range s.nodes {
		for _, e := range n.Ents {
			if _, is := s.nodes[e.Node]; !is {
				return false
			}
		}
		if n.Kind == api.Dir && i != 1 && (s.links(i) != 1 || !seen[i]) {
			return false
		}
		if n.Kind != api.Dir && s.links(i) == 0 && !slices.Contains(open, i) {
			return false
		}
	}
	return true
}

func (s second) add(n node.Node) (int, api.Errno) {
	if !node.Right(n) {
		return 0, api.EINVAL
	}
	if len(s.nodes) == s.room {
		return 0, api.ENOSPC
	}
	id := 1
	for s.nodes[id].Kind != 0 {
		id++
	}
	s.nodes[id] = deep(n)
	return id, api.OK
}

func (s second) put(i int, n node.Node) api.Errno {
	if _, is := s.nodes[i]; !is {
		return api.ENOENT
	}
	if !node.Right(n) {
		return api.EINVAL
	}
	s.nodes[i] = deep(n)
	return api.OK
}

func (s second) drop(i int) bool {
	_, is := s.nodes[i]
	delete(s.nodes, i)
	return is
}

// holdAgainst asks a table for all that it tells.
func (s second) holdAgainst(t *testing.T, x *Table, open ...int) {
	t.Helper()
	if x.Room() != s.room || x.Used() != len(s.nodes) || !reflect.DeepEqual(nodesOf(x), s.nodes) {
		t.Fatalf("%s, Room %d, Used %d, want %v, %d", show(x), x.Room(), x.Used(), s.nodes, s.room)
	}
	for i := -2; i <= api.CapMax+3; i++ {
		if x.Links(i) != s.links(i) || x.Parent(i) != s.parent(i) {
			t.Fatalf("%s: Links(%d) = %d, Parent %d, want %d, %d", show(x), i, x.Links(i), x.Parent(i), s.links(i), s.parent(i))
		}
	}
	if got := x.Right(open...); got != s.right(open) {
		t.Fatalf("%s: Right(%v) = %v", show(x), open, got)
	}
}

func TestExamples(t *testing.T) {
	x := New(2)
	wantAdd(t, x, file(""), 1, api.OK)
	wantAdd(t, x, file(""), 2, api.OK)
	wantAdd(t, x, file(""), 0, api.ENOSPC)
	if !x.Drop(1) {
		t.Error("Drop(1) is false")
	}
	wantAdd(t, x, file(""), 1, api.OK)
}

// P9.1

func TestRoom(t *testing.T) {
	for _, c := range []struct{ room, want int }{
		{math.MinInt, 1}, {-1, 1}, {0, 1}, {1, 1}, {2, 2}, {3, 3}, {12, 12}, {23, 23}, {24, 24}, {25, 24}, {26, 24}, {1000, 24}, {1 << 32, 24}, {math.MaxInt, 24},
	} {
		x := New(c.room)
		if x.Room() != c.want || x.Used() != 0 {
			t.Errorf("New(%d): Room %d, Used %d, want %d, 0", c.room, x.Room(), x.Used(), c.want)
		}
		for i := range c.want {
			wantNone(t, x, i+1)
			wantAdd(t, x, file("x"), i+1, api.OK)
			if x.Room() != c.want || x.Used() != i+1 {
				t.Errorf("New(%d), %d nodes: Room %d, Used %d", c.room, i+1, x.Room(), x.Used())
			}
		}
		wantAdd(t, x, file("x"), 0, api.ENOSPC)
	}
}

func TestTablesAreApart(t *testing.T) {
	x, y := New(3), New(3)
	wantAdd(t, x, file("x"), 1, api.OK)
	wantNone(t, y, 1)
	wantAdd(t, y, file("y"), 1, api.OK)
	wantGet(t, x, 1, file("x"))
}

func TestGet(t *testing.T) {
	nodes := []node.Node{
		dir(2, 3), file("hi"), link("a/b"), {Kind: api.Dir, Mode: 4095, Uid: 65535, Gid: 65534}, {Kind: api.File, Mode: 0o4755, Uid: 1, Gid: 2, Data: make([]byte, 48)},
	}
	x := tableOf(t, nodes...)
	for i, n := range nodes {
		wantGet(t, x, i+1, n)
	}
	for i := len(nodes) + 1; i <= api.CapMax; i++ {
		wantNone(t, x, i)
	}
	for _, i := range oddNumbers {
		wantNone(t, x, i)
	}
	small := New(2)
	wantAdd(t, small, file(""), 1, api.OK)
	wantAdd(t, small, file(""), 2, api.OK)
	wantNone(t, small, 3)
}

func TestGetInNewMemory(t *testing.T) {
	x := tableOf(t, dir(2, 3), file("hi"), link("a"))
	was := nodesOf(x)
	for i := range 3 {
		n, _ := x.Get(i + 1)
		for k := range n.Ents {
			n.Ents[k] = node.Ent{Name: "changed", Node: 9}
		}
		for k := range n.Data {
			n.Data[k] = 'X'
		}
		_ = append(n.Ents, node.Ent{Name: "z", Node: 9})
		_ = append(n.Data, 'z')
	}
	if !reflect.DeepEqual(nodesOf(x), was) || x.Links(9) != 0 {
		t.Errorf("who changes an answer changes the table: %s", show(x))
	}
}

// P9.2

// wrongNodes is nodes that may not be.
func wrongNodes() []node.Node {
	return []node.Node{
		{}, {Kind: 4}, {Kind: -1}, {Kind: api.File, Mode: 4096}, {Kind: api.File, Mode: -1}, {Kind: api.Dir, Uid: 65536}, {Kind: api.Dir, Gid: -1},
		{Kind: api.File, Data: make([]byte, 49)}, {Kind: api.File, Target: "a"}, {Kind: api.File, Ents: []node.Ent{{Name: "a", Node: 1}}},
		{Kind: api.Link, Mode: 511}, {Kind: api.Link, Target: "a"}, {Kind: api.Dir, Data: []byte("a")},
		dir(0), dir(1, -1), dir(1, 1, 1, 1, 1, 1, 1, 1, 1), {Kind: api.Dir, Ents: []node.Ent{{Name: "b", Node: 1}, {Name: "a", Node: 1}}}, {Kind: api.Dir, Ents: []node.Ent{{Name: "..", Node: 1}}},
	}
}

func TestPut(t *testing.T) {
	for _, n := range []node.Node{file(""), file("ab"), dir(), dir(1, 2, 3, 9), dir(25, math.MaxInt), link("x"), {Kind: api.File, Mode: 4095, Uid: 65535, Gid: 65535}} {
		for i := 1; i <= 3; i++ {
			before := []node.Node{dir(2, 3), file("hi"), link("a")}
			x := tableOf(t, before...)
			if err := x.Put(i, n); err != api.OK {
				t.Errorf("Put(%d, %+v) = %v", i, n, err)
			}
			before[i-1] = n
			for k, want := range before {
				wantGet(t, x, k+1, want)
			}
			if x.Used() != 3 {
				t.Errorf("Put changes Used to %d", x.Used())
			}
		}
	}
}

// TestPutFaults: where there is no node that goes ahead of a node that may not be.
func TestPutFaults(t *testing.T) {
	x := tableOf(t, dir(2, 3), file("hi"), node.Node{}, link("a"))
	was := nodesOf(x)
	for _, i := range append([]int{3, 5, 23, 24}, oddNumbers...) {
		for _, n := range append(wrongNodes(), file("ok"), dir()) {
			if err := x.Put(i, n); err != api.ENOENT {
				t.Errorf("Put(%d, %+v) = %v, want ENOENT", i, n, err)
			}
		}
	}
	for _, i := range []int{1, 2, 4} {
		for _, n := range wrongNodes() {
			if err := x.Put(i, n); err != api.EINVAL {
				t.Errorf("Put(%d, %+v) = %v, want EINVAL", i, n, err)
			}
		}
	}
	if !reflect.DeepEqual(nodesOf(x), was) {
		t.Errorf("a Put that fails changes the table to %s", show(x))
	}
}

// TestAddFaults: a node that may not be goes ahead of a table without room.
func TestAddFaults(t *testing.T) {
	for room := 1; room <= api.CapMax; room++ {
		x := New(room)
		for used := range room + 1 {
			was := nodesOf(x)
			for _, n := range wrongNodes() {
				wantAdd(t, x, n, 0, api.EINVAL)
			}
			if used == room {
				for _, n := range []node.Node{file(""), dir(), link("a")} {
					wantAdd(t, x, n, 0, api.ENOSPC)
				}
			}
			if !reflect.DeepEqual(nodesOf(x), was) || x.Used() != used {
				t.Fatalf("an Add that fails changes the table to %s", show(x))
			}
			if used < room {
				wantAdd(t, x, file(string(rune('a'+used))), used+1, api.OK)
			}
		}
	}
}

// TestAddAtTheLeast: of numbers that are free the least one is taken, whichever were dropped.
func TestAddAtTheLeast(t *testing.T) {
	for dropped := range 1 << 6 {
		x := New(6)
		for i := range 6 {
			wantAdd(t, x, file("old"), i+1, api.OK)
		}
		// From above, so that the last one that was dropped isn't the last one to be taken.
		for i := 5; i >= 0; i-- {
			if dropped>>i&1 == 1 && !x.Drop(i+1) {
				t.Fatalf("Drop(%d) is false", i+1)
			}
		}
		for i := range 6 {
			if dropped>>i&1 == 1 {
				wantAdd(t, x, file("new"), i+1, api.OK)
			}
		}
		wantAdd(t, x, file("more"), 0, api.ENOSPC)
		for i := range 6 {
			wantGet(t, x, i+1, file(map[bool]string{true: "new", false: "old"}[dropped>>i&1 == 1]))
		}
	}
}

func TestDrop(t *testing.T) {
	x := tableOf(t, dir(2, 3), dir(4), file("hi"), link("a"))
	for _, i := range append([]int{5, 6, 23, 24}, oddNumbers...) {
		if x.Drop(i) {
			t.Errorf("Drop(%d) is true", i)
		}
	}
	if x.Used() != 4 {
		t.Errorf("Used = %d", x.Used())
	}
	for gone, i := range []int{3, 1, 4, 2} {
		if !x.Drop(i) || x.Drop(i) || x.Used() != 3-gone || x.Put(i, file("")) != api.ENOENT {
			t.Errorf("Drop(%d) leaves %s", i, show(x))
		}
		wantNone(t, x, i)
	}
	wantAdd(t, x, file("new"), 1, api.OK)
	wantGet(t, x, 1, file("new"))
}

// TestHandedInIsNotKept: what was handed in may be changed later, and isn't changed.
func TestHandedInIsNotKept(t *testing.T) {
	for name, put := range map[string]func(x *Table, n node.Node) api.Errno{
		"Add": func(x *Table, n node.Node) api.Errno { _, err := x.Add(n); return err },
		"Put": func(x *Table, n node.Node) api.Errno { x.Add(link("old")); return x.Put(1, n) },
	} {
		for _, n := range []node.Node{dir(2, 3), file("hi")} {
			x := New(1)
			want := deep(n)
			if err := put(x, n); err != api.OK || !equal(n, want) {
				t.Errorf("%s: %v, %+v", name, err, n)
			}
			for k := range n.Ents {
				n.Ents[k] = node.Ent{Name: "changed", Node: 9}
			}
			for k := range n.Data {
				n.Data[k] = 'X'
			}
			wantGet(t, x, 1, want)
		}
	}
}

// P9.3

func TestLinksAndParent(t *testing.T) {
	x := tableOf(t, dir(4, 3, 3), file("hi"), dir(3, 4, 9, 25, 3), link("a"), node.Node{}, dir(9, 1, math.MaxInt, 24), dir(1<<32+4))
	for _, c := range []struct{ i, links, parent int }{
		{1, 1, 6}, {2, 0, 0}, {3, 4, 1}, {4, 2, 1}, {5, 0, 0}, {6, 0, 0}, {7, 0, 0}, {8, 0, 0},
		// There needn't be such a node, nor room for one.
		{9, 2, 3}, {24, 1, 6}, {25, 1, 3}, {math.MaxInt, 1, 6}, {1<<32 + 4, 1, 7},
		{26, 0, 0}, {0, 0, 0}, {-1, 0, 0}, {math.MinInt, 0, 0}, {1 << 32, 0, 0},
	} {
		if x.Links(c.i) != c.links || x.Parent(c.i) != c.parent {
			t.Errorf("Links(%d) = %d, Parent %d, want %d, %d", c.i, x.Links(c.i), x.Parent(c.i), c.links, c.parent)
		}
	}
	// Whose directory is gone or changed isn't an entry any more.
	x.Drop(1)
	if x.Links(3) != 2 || x.Parent(3) != 3 || x.Links(4) != 1 || x.Parent(4) != 3 {
		t.Errorf("behind Drop: %d, %d, %d, %d", x.Links(3), x.Parent(3), x.Links(4), x.Parent(4))
	}
	x.Put(3, file(""))
	if x.Links(3) != 0 || x.Parent(3) != 0 || x.Links(9) != 1 || x.Parent(9) != 6 {
		t.Errorf("behind Put: %d, %d, %d, %d", x.Links(3), x.Parent(3), x.Links(9), x.Parent(9))
	}
	// That the node itself is gone plays no part.
	x.Drop(4)
	x.Put(2, dir(4, 4, 4, 4, 4, 4, 4, 4))
	if x.Links(4) != 8 || x.Parent(4) != 2 {
		t.Errorf("eight entries: %d, %d", x.Links(4), x.Parent(4))
	}
}

func TestLinksOfAll(t *testing.T) {
	x := New(api.CapMax)
	for range api.CapMax {
		x.Add(dir(24, 24, 24, 24, 24, 24, 24, 24))
	}
	if x.Links(24) != 192 || x.Parent(24) != 1 || x.Links(1) != 0 || x.Parent(1) != 0 {
		t.Errorf("Links %d, Parent %d", x.Links(24), x.Parent(24))
	}
	for i := 1; i < api.CapMax; i++ {
		x.Drop(i)
	}
	if x.Links(24) != 8 || x.Parent(24) != 24 {
		t.Errorf("of itself: Links %d, Parent %d", x.Links(24), x.Parent(24))
	}
}

// P9.4

func TestClone(t *testing.T) {
	for room := 1; room <= api.CapMax; room++ {
		x := New(room)
		for i := range room {
			wantAdd(t, x, []node.Node{dir(2, 3), file("hi"), link("a")}[i%3], i+1, api.OK)
		}
		x.Drop(room/2 + 1)
		c := x.Clone()
		if c.Room() != room || c.Used() != x.Used() || !reflect.DeepEqual(nodesOf(c), nodesOf(x)) || !c.Same(x) || !x.Same(c) {
			t.Errorf("the clone of %s is %s", show(x), show(c))
		}
	}
}

// TestClonesAreApart: what is done to one changes nothing of the other.
func TestClonesAreApart(t *testing.T) {
	for name, change := range map[string]func(x *Table){
		"Add":  func(x *Table) { x.Add(file("new")) },
		"Put":  func(x *Table) { x.Put(2, file("ho")) },
		"Drop": func(x *Table) { x.Drop(2) },
		"all": func(x *Table) {
			for i := range api.CapMax {
				x.Drop(i + 1)
			}
		},
	} {
		x := tableOf(t, dir(2, 3), file("hi"), link("a"))
		c := x.Clone()
		was := nodesOf(x)
		change(c)
		if !reflect.DeepEqual(nodesOf(x), was) || c.Same(x) || x.Same(c) {
			t.Errorf("%s of a clone makes of the first one %s", name, show(x))
		}
		c = x.Clone()
		change(x)
		if !reflect.DeepEqual(nodesOf(c), was) || c.Same(x) || x.Same(c) {
			t.Errorf("%s makes of its clone %s", name, show(c))
		}
	}
}

func TestSame(t *testing.T) {
	of := func(nodes ...node.Node) *Table { return tableOf(t, nodes...) }
	none := node.Node{}
	all := []*Table{
		of(), of(file("")), of(dir()), of(link("a")), of(link("b")), of(none, file("")), of(file("a")), of(file("b")), of(file("ab")), of(file(""), file("")), of(file("a"), file("b")), of(file("b"), file("a")),
		of(dir(1)), of(dir(2)), of(dir(1, 1)), of(node.Node{Kind: api.Dir, Mode: 0o755, Ents: []node.Ent{{Name: "b", Node: 1}}}),
		of(node.Node{Kind: api.File, Mode: 1}), of(node.Node{Kind: api.File, Uid: 1}), of(node.Node{Kind: api.File, Gid: 1}), of(file(""), none, file("")),
	}
	for i, a := range all {
		for k, b := range all {
			if a.Same(b) != (i == k) || a.Same(b.Clone()) != (i == k) {
				t.Errorf("%s, %s: Same is %v", show(a), show(b), a.Same(b))
			}
		}
	}
}

// TestSameOfRooms: rooms play no part, and a number that just one has counts at each place.
func TestSameOfRooms(t *testing.T) {
	for a := 1; a <= api.CapMax; a++ {
		for b := 1; b <= api.CapMax; b++ {
			x, y := New(a), New(b)
			if !x.Same(y) {
				t.Fatalf("without nodes, rooms %d and %d: not the same", a, b)
			}
			for range min(a, b) {
				x.Add(file("x"))
				y.Add(file("x"))
			}
			if !x.Same(y) || !y.Same(x) {
				t.Fatalf("rooms %d and %d: not the same", a, b)
			}
			if _, err := x.Add(file("x")); err == api.OK && (x.Same(y) || y.Same(x)) {
				t.Fatalf("rooms %d and %d, one node more: the same", a, b)
			}
		}
	}
	full := New(api.CapMax)
	for range api.CapMax {
		full.Add(file("x"))
	}
	for i := range api.CapMax {
		c := full.Clone()
		c.Put(i+1, file("y"))
		if c.Same(full) || full.Same(c) {
			t.Errorf("node %d differs, and they are the same", i+1)
		}
		c.Drop(i + 1)
		if c.Same(full) || full.Same(c) {
			t.Errorf("node %d is gone, and they are the same", i+1)
		}
	}
}

func TestSameEmptyLists(t *testing.T) {
	x, y := New(2), New(2)
	x.Add(node.Node{Kind: api.Dir, Data: []byte{}, Ents: []node.Ent{}})
	y.Add(node.Node{Kind: api.Dir})
	if !x.Same(y) || !y.Same(x) {
		t.Error("nil and empty lists aren't one")
	}
}

// P9.5

func TestRightTrees(t *testing.T) {
	for _, nodes := range [][]node.Node{
		{dir()},
		{dir(2), file("")}, {dir(2), link("nowhere")}, {dir(2), dir()},
		// A File and a Link may have many entries, in one directory or in some.
		{dir(2, 2, 3), file(""), dir(2, 4, 4), link("a")},
		{dir(3), file(""), dir(2)}, {dir(4), file(""), dir(2), dir(3)},
		{dir(5), {}, {}, {}, dir(9), {}, {}, {}, file("x")},
		{dir(2, 3, 4, 5, 6, 7, 8, 9), dir(), dir(), dir(), file(""), file(""), link("a"), dir(10), dir(), link("a")},
	} {
		wantRight(t, tableOf(t, nodes...), true)
		wantRight(t, tableOf(t, nodes...), true, 1, 2, 2, 0, -1, 99)
	}
}

func TestWrongTrees(t *testing.T) {
	none := node.Node{}
	for _, nodes := range [][]node.Node{
		// Node 1 is no Dir, or has an entry.
		{}, {none, dir()}, {none, dir(3), file("")}, {file("")}, {link("a")}, {file(""), dir()}, {none, dir(2)},
		{dir(1)}, {dir(2), dir(1)}, {dir(2), dir(3), dir(1)}, {dir(2, 1), file("")},
		// There is no node of an entry.
		{dir(2)}, {dir(3), none}, {dir(25)}, {dir(2, 24), file("")}, {dir(math.MaxInt)}, {dir(2), dir(3)}, {dir(2), dir(1 << 32)}, {dir(2, 1<<32+2), file("")},
		// A Dir has no entry, or two.
		{dir(), dir()}, {dir(2), file(""), dir(2)}, {dir(2, 2), dir()}, {dir(2, 3), dir(3), dir()}, {dir(3, 4), none, dir(5), dir(5), dir()}, {dir(2), dir(2)},
		// One doesn't come to node 1.
		{dir(), dir(2)}, {dir(), dir(3), dir(2)}, {dir(), dir(3), dir(4), dir(2)}, {dir(2), file(""), dir(4), dir(3)}, {dir(), dir(3, 4), dir(2), file("")}, {dir(), dir(3, 4), dir(2), dir()},
	} {
		wantRight(t, tableOf(t, nodes...), false)
		// Just Files and Links may be open.
		wantRight(t, tableOf(t, nodes...), false, 1, 2, 3, 4, 5, 24, 25)
	}
}

func TestRightOfOpenNodes(t *testing.T) {
	for _, n := range []node.Node{file("x"), link("a")} {
		x := tableOf(t, dir(2), dir(), n, node.Node{}, n)
		for _, c := range []struct {
			open []int
			want bool
		}{
			{nil, false}, {[]int{3}, false}, {[]int{5}, false}, {[]int{3, 5}, true}, {[]int{5, 3}, true}, {[]int{5, 3, 3, 5}, true}, {[]int{3, 4}, false}, {[]int{1, 2, 4}, false}, {[]int{-3, 5}, false}, {[]int{35}, false},
			{[]int{0, 1, 2, 3, 4, 5, 6}, true}, {[]int{math.MinInt, 5, math.MaxInt, 3, 99}, true}, {[]int{2, 4}, false}, {[]int{1<<32 + 3, 5}, false},
		} {
			wantRight(t, x, c.want, c.open...)
		}
		x.Put(2, dir(3, 5))
		wantRight(t, x, true)
		x.Put(2, dir(5))
		wantRight(t, x, false)
		wantRight(t, x, true, 3)
	}
}

// TestRightOfDeepTrees: as deep as there is room, in either order of numbers, or shut off as a ring.
func TestRightOfDeepTrees(t *testing.T) {
	for deepest := 2; deepest <= api.CapMax; deepest++ {
		down := []node.Node{}
		for i := 2; i <= deepest; i++ {
			down = append(down, dir(i))
		}
		down = append(down, dir())
		wantRight(t, tableOf(t, down...), true)
		up := []node.Node{dir(deepest), dir()}
		for i := 3; i <= deepest; i++ {
			up = append(up, dir(i-1))
		}
		wantRight(t, tableOf(t, up[:deepest]...), true)
		ring := slices.Clone(down)
		ring[0], ring[deepest-1] = dir(), dir(2)
		wantRight(t, tableOf(t, ring...), false)
	}
}

func TestRightChangesNothing(t *testing.T) {
	x := tableOf(t, dir(2, 3), dir(4), file("hi"), link("a"), file(""))
	was := nodesOf(x)
	open := []int{9, 5, 7}
	x.Right(open...)
	if !slices.Equal(open, []int{9, 5, 7}) || !reflect.DeepEqual(nodesOf(x), was) {
		t.Errorf("Right changes %v or %s", open, show(x))
	}
}

// TestAllSmallTables: all tables of up to three nodes, each none, a File, or a Dir with up to two entries, held against the second reading.
func TestAllSmallTables(t *testing.T) {
	choices := []node.Node{{}, file("")}
	for a := range 5 {
		for b := range 5 {
			switch {
			case a == 0 && b == 0:
				choices = append(choices, dir())
			case a > 0 && b == 0:
				choices = append(choices, dir(a))
			case a > 0:
				choices = append(choices, dir(a, b))
			}
		}
	}
	for _, a := range choices {
		for _, b := range choices {
			for _, c := range choices {
				x, s := tableOf(t, a, b, c), second{api.CapMax, map[int]node.Node{}}
				for i, n := range []node.Node{a, b, c} {
					if n.Kind != 0 {
						s.nodes[i+1] = deep(n)
					}
				}
				s.holdAgainst(t, x)
				if x.Right(2) != s.right([]int{2}) || x.Right(3, 2) != s.right([]int{3, 2}) {
					t.Fatalf("%s: Right of open ones", show(x))
				}
			}
		}
	}
}

// P9.6

func TestNil(t *testing.T) {
	var x *Table
	if x.Room() != 0 || x.Used() != 0 || x.Clone() != nil || x.Right() || x.Right(1, 2) {
		t.Errorf("nil: Room %d, Used %d, Clone %v, Right %v", x.Room(), x.Used(), x.Clone(), x.Right())
	}
	for _, i := range append([]int{1, 2, 24}, oddNumbers...) {
		wantNone(t, x, i)
		if x.Links(i) != 0 || x.Parent(i) != 0 || x.Drop(i) {
			t.Errorf("nil: Links(%d) %d, Parent %d", i, x.Links(i), x.Parent(i))
		}
		for _, n := range append(wrongNodes(), file(""), dir()) {
			if err := x.Put(i, n); err != api.ENOENT {
				t.Errorf("nil: Put(%d, %+v) = %v", i, n, err)
			}
		}
	}
	for _, n := range []node.Node{file(""), dir(2), link("a")} {
		wantAdd(t, x, n, 0, api.ENOSPC)
	}
	for _, n := range wrongNodes() {
		wantAdd(t, x, n, 0, api.EINVAL)
	}
}

// TestSameOfNil: a nil table has no nodes.
func TestSameOfNil(t *testing.T) {
	var x *Table
	if !New(1).Same(nil) || !x.Same(New(24)) || !x.Same(nil) {
		t.Error("nil isn't the same as a table without nodes")
	}
	for _, n := range []node.Node{file(""), dir(), link("a")} {
		for _, y := range []*Table{tableOf(t, n), tableOf(t, append(make([]node.Node, 23), n)...)} {
			if y.Same(nil) || x.Same(y) {
				t.Errorf("nil is the same as %s", show(y))
			}
		}
	}
}

// TestManyChanges: many calls in a row, with a seed that stays, held against the second reading.
func TestManyChanges(t *testing.T) {
	chance := rand.New(rand.NewSource(9))
	for range 200 {
		room := 1 + chance.Intn(api.CapMax)
		x, s := New(room), second{room, map[int]node.Node{}}
		someNode := func() node.Node {
			switch chance.Intn(8) {
			case 0:
				return wrongNodes()[chance.Intn(len(wrongNodes()))]
			case 1, 2:
				return file(strings.Repeat("x", chance.Intn(49)))
			case 3:
				return link("a")
			}
			ids := make([]int, chance.Intn(4))
			for i := range ids {
				ids[i] = 1 + chance.Intn(room+1)
			}
			return dir(ids...)
		}
		for range 60 {
			i, n := chance.Intn(room+3)-1, someNode()
			switch chance.Intn(5) {
			case 0, 1:
				id, err := x.Add(n)
				if want, wantErr := s.add(n); id != want || err != wantErr {
					t.Fatalf("Add = %d, %v, want %d, %v", id, err, want, wantErr)
				}
			case 2, 3:
				err := x.Put(i, n)
				if want := s.put(i, n); err != want {
					t.Fatalf("Put(%d) = %v, want %v", i, err, want)
				}
			default:
				is := x.Drop(i)
				if want := s.drop(i); is != want {
					t.Fatalf("Drop(%d) = %v", i, is)
				}
			}
			s.holdAgainst(t, x, chance.Intn(room+1), chance.Intn(room+1))
			s.holdAgainst(t, x.Clone())
		}
	}
}

// TestManyTrees: trees that grow entry by entry are Right, and held against the second reading when one node more or less is there.
func TestManyTrees(t *testing.T) {
	chance := rand.New(rand.NewSource(99))
	for range 300 {
		x, dirs := New(api.CapMax), []int{1}
		wantAdd(t, x, dir(), 1, api.OK)
		for count := 1; count < api.CapMax; count++ {
			at := dirs[chance.Intn(len(dirs))]
			n, _ := x.Get(at)
			more, err := node.With(n, fmt.Sprint("n", count), count+1)
			if err != api.OK {
				break
			}
			kind := chance.Intn(3)
			wantAdd(t, x, []node.Node{dir(), file("x"), link("a")}[kind], count+1, api.OK)
			wantRight(t, x, kind != 0, count+1)
			wantRight(t, x, false)
			if x.Put(at, more) != api.OK || x.Parent(count+1) != at || x.Links(count+1) != 1 {
				t.Fatalf("%s: node %d isn't in %d", show(x), count+1, at)
			}
			wantRight(t, x, true)
			if kind == 0 {
				dirs = append(dirs, count+1)
			}
		}
		for i := range x.Used() {
			c := x.Clone()
			c.Drop(i + 1)
			wantRight(t, c, false)
			if !x.Same(x.Clone()) || x.Same(c) {
				t.Fatal("Same of a table of which one node is gone")
			}
		}
	}
}
