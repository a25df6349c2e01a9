package node

import (
	"bytes"
	"fmt"
	"math"
	"math/rand"
	"reflect"
	"slices"
	"strings"
	"testing"

	"gaoler/api"
)

// dirOf is a directory with entries of these names, whose nodes count from 1 on.
func dirOf(names ...string) Node {
	n := Node{Kind: api.Dir, Mode: 0o755, Uid: 1, Gid: 2}
	for i, name := range names {
		n.Ents = append(n.Ents, Ent{name, i + 1})
	}
	return n
}

// full is a directory without room.
func full() Node { return dirOf("b", "d", "f", "h", "j", "l", "n", "p") }

// deep is a node that shares no memory with n, empty lists nil, as far as reflect tells.
func deep(n Node) Node {
	n.Data = append([]byte(nil), n.Data...)
	n.Ents = append([]Ent(nil), n.Ents...)
	return n
}

func equal(a, b Node) bool { return reflect.DeepEqual(deep(a), deep(b)) }

func show(n Node) string { return fmt.Sprintf("%.200q", fmt.Sprintf("%+v", n)) }

// wantNode holds what With or Without answered against what is wanted.
func wantNode(t *testing.T, what string, got Node, err api.Errno, want Node) {
	t.Helper()
	if err != api.OK || !equal(got, want) {
		t.Errorf("%s = %s, %v, want %s", what, show(got), err, show(want))
	}
}

func wantFault(t *testing.T, what string, got Node, err, want api.Errno) {
	t.Helper()
	if err != want || !reflect.DeepEqual(got, Node{}) {
		t.Errorf("%s = %s, %v, want a zero node and %v", what, show(got), err, want)
	}
}

func wantRight(t *testing.T, n Node, want bool) {
	t.Helper()
	if Right(n) != want {
		t.Errorf("Right(%s) isn't %v", show(n), want)
	}
}

// eachText hands over all texts of up to some of the signs.
func eachText(signs string, most int, f func(string)) {
	var add func(s string, more int)
	add = func(s string, more int) {
		f(s)
		if more > 0 {
			for i := range len(signs) {
				add(s+signs[i:i+1], more-1)
			}
		}
	}
	add("", most)
}

// A second reading of the chapter.

func secondName(s string) bool {
	return len(s) >= 1 && len(s) <= 12 && s != "." && s != ".." && !strings.Contains(s, "/") && !strings.Contains(s, "\x00")
}

func secondEnts(ents []Ent) bool {
	for i, e := range ents {
		if !secondName(e.Name) || e.Node < 1 {
			return false
		}
		for _, later := range ents[i+1:] {
			if bytes.Compare([]byte(e.Name), []byte(later.Name)) >= 0 {
				return false
			}
		}
	}
	return len(ents) <= 8
}

func secondRight(n Node) bool {
	common := n.Mode >= 0 && n.Mode < 4096 && n.Uid >= 0 && n.Uid < 65536 && n.Gid >= 0 && n.Gid < 65536
	file := n.Kind == 1 && len(n.Ents) == 0 && n.Target == "" && len(n.Data) <= 48
	dir := n.Kind == 2 && len(n.Data) == 0 && n.Target == "" && secondEnts(n.Ents)
	fits := len(n.Target) >= 1 && len(n.Target) <= 64 && !strings.Contains(n.Target, "\x00")
	link := n.Kind == 3 && len(n.Data) == 0 && len(n.Ents) == 0 && n.Mode == 511 && fits
	return common && (file || dir || link)
}

func secondWith(n Node, name string, id int) (Node, api.Errno) {
	taken := false
	for _, e := range n.Ents {
		taken = taken || e.Name == name
	}
	for _, fault := range []struct {
		holds bool
		err   api.Errno
	}{
		{n.Kind != 2, 20},
		{id < 1 || name == "" || name == "." || name == ".." || strings.Contains(name, "\x00") || strings.Contains(name, "/"), 22},
		{len(name) > 12, 36},
		{taken, 17},
		{len(n.Ents) >= 8, 28},
	} {
		if fault.holds {
			return Node{}, fault.err
		}
	}
	var ents []Ent
	isIn := false
	for _, e := range n.Ents {
		if !isIn && e.Name > name {
			ents, isIn = append(ents, Ent{name, id}), true
		}
		ents = append(ents, e)
	}
	if !isIn {
		ents = append(ents, Ent{name, id})
	}
	n.Ents = ents
	return n, 0
}

func secondWithout(n Node, name string) (Node, api.Errno) {
	if n.Kind != 2 {
		return Node{}, 20
	}
	var ents []Ent
	isOut := false
	for _, e := range n.Ents {
		if e.Name == name && !isOut {
			isOut = true
			continue
		}
		ents = append(ents, e)
	}
	if !isOut {
		return Node{}, 2
	}
	n.Ents = ents
	return n, 0
}

// holdAgainstSecondReading asks for one entry more and for one less.
func holdAgainstSecondReading(t *testing.T, n Node, name string, id int) {
	t.Helper()
	was := deep(n)
	got, err := With(n, name, id)
	if want, wantErr := secondWith(n, name, id); err != wantErr || !equal(got, want) {
		t.Fatalf("With(%s, %q, %d) = %s, %v, want %s, %v", show(n), name, id, show(got), err, show(want), wantErr)
	}
	got, err = Without(n, name)
	if want, wantErr := secondWithout(n, name); err != wantErr || !equal(got, want) {
		t.Fatalf("Without(%s, %q) = %s, %v, want %s, %v", show(n), name, show(got), err, show(want), wantErr)
	}
	if !equal(n, was) {
		t.Fatalf("%s was changed to %s", show(was), show(n))
	}
}

func TestExamples(t *testing.T) {
	d := dirOf("a")
	got, err := With(d, "b", 2)
	wantNode(t, "With b", got, err, dirOf("a", "b"))
	got, err = With(d, "a", 2)
	wantFault(t, "With a", got, err, api.EEXIST)
	got, err = Without(d, "c")
	wantFault(t, "Without c", got, err, api.ENOENT)
}

// P8.1

func TestRightNodes(t *testing.T) {
	for _, n := range []Node{
		{Kind: api.File},
		{Kind: api.File, Mode: 4095, Uid: 65535, Gid: 65535},
		{Kind: api.File, Mode: 0o644, Data: []byte{}, Ents: []Ent{}},
		{Kind: api.File, Data: []byte{0, '/', 255}},
		{Kind: api.File, Data: make([]byte, 47)},
		{Kind: api.File, Data: make([]byte, 48)},
		{Kind: api.File, Data: make([]byte, 48, 1000)},
		{Kind: api.Dir},
		{Kind: api.Dir, Mode: 4095, Uid: 65535, Gid: 65535},
		{Kind: api.Dir, Data: []byte{}, Ents: []Ent{}},
		{Kind: api.Dir, Ents: []Ent{{"a", 1}}},
		{Kind: api.Dir, Ents: []Ent{{"a", 1}, {"b", 1}, {"c", 1}}},
		{Kind: api.Dir, Ents: []Ent{{"a", 3}, {"b", 2}, {"c", math.MaxInt}}},
		{Kind: api.Dir, Ents: []Ent{{strings.Repeat("x", 12), 25}}},
		dirOf("a", "aa", "ab", "b", "ba"),
		dirOf("...", "A", "Z", "a", "z", "\x7f", "\xff"),
		dirOf("\x01", "a\x01", "é", "\xff\xff"),
		full(),
		{Kind: api.Link, Mode: 511, Target: "a"},
		{Kind: api.Link, Mode: 511, Target: "/"},
		{Kind: api.Link, Mode: 511, Uid: 65535, Gid: 65535, Target: "../a//b/."},
		{Kind: api.Link, Mode: 511, Data: []byte{}, Ents: []Ent{}, Target: strings.Repeat("x", 64)},
	} {
		wantRight(t, n, true)
	}
}

func TestWrongNodes(t *testing.T) {
	one := []Ent{{"a", 1}}
	for _, n := range []Node{
		{}, {Kind: 4}, {Kind: -1}, {Kind: 5}, {Kind: math.MaxInt}, {Kind: math.MinInt}, {Kind: 0, Mode: 511, Target: "a"}, {Kind: 257},
		{Kind: api.File, Target: "a"},
		{Kind: api.File, Ents: one},
		{Kind: api.File, Data: make([]byte, 49)},
		{Kind: api.File, Data: make([]byte, 70000)},
		{Kind: api.Dir, Target: "a"},
		{Kind: api.Dir, Data: []byte{0}},
		{Kind: api.Dir, Ents: one, Target: "a"},
		{Kind: api.Dir, Ents: one, Data: []byte{0}},
		{Kind: api.Dir, Ents: []Ent{{"a", 0}}},
		{Kind: api.Dir, Ents: []Ent{{"a", -1}}},
		{Kind: api.Dir, Ents: []Ent{{"a", math.MinInt}}},
		{Kind: api.Dir, Ents: []Ent{{"a", 1}, {"b", 0}}},
		{Kind: api.Dir, Ents: []Ent{{"a", 0}, {"b", 1}}},
		{Kind: api.Dir, Ents: []Ent{{"a", 1}, {"a", 2}}},
		dirOf("b", "a"), dirOf("aa", "a"), dirOf("a", "a"), dirOf("a", "c", "b"), dirOf("b", "a", "c"), dirOf("a", "b", "b"), dirOf("a", "b", "a"), dirOf("a", "B"), dirOf("\xff", "a"), dirOf("é", "z"),
		dirOf(""), dirOf("."), dirOf(".."), dirOf("/"), dirOf("a/b"), dirOf("a/"), dirOf("\x00"), dirOf("a\x00"), dirOf(strings.Repeat("x", 13)), dirOf(strings.Repeat("é", 7)),
		dirOf("", "a"), dirOf(".", "a"), dirOf("-", "."), dirOf("-", ".."), dirOf("a", "b/"), dirOf("a", "b\x00"), dirOf("a", strings.Repeat("x", 13)), dirOf(strings.Repeat("a", 13), "b"),
		dirOf("a", "b", "c", "d", "e", "f", "g", "h", "i"),
		{Kind: api.Link, Mode: 511},
		{Kind: api.Link, Target: "a"},
		{Kind: api.Link, Mode: 510, Target: "a"},
		{Kind: api.Link, Mode: 512, Target: "a"},
		{Kind: api.Link, Mode: 4095, Target: "a"},
		{Kind: api.Link, Mode: 511 + 4096, Target: "a"},
		{Kind: api.Link, Mode: 511, Target: "a", Data: []byte{0}},
		{Kind: api.Link, Mode: 511, Target: "a", Ents: one},
		{Kind: api.Link, Mode: 511, Target: "a\x00"},
		{Kind: api.Link, Mode: 511, Target: "\x00"},
		{Kind: api.Link, Mode: 511, Target: strings.Repeat("x", 65)},
	} {
		wantRight(t, n, false)
	}
}

// TestRightNumbers: modes and ids around their limits, for each kind.
func TestRightNumbers(t *testing.T) {
	numbers := []int{math.MinInt, -65536, -4096, -1, 0, 1, 510, 511, 512, 4094, 4095, 4096, 4097, 65534, 65535, 65536, 65537, 1 << 32, math.MaxInt}
	for _, n := range []Node{{Kind: api.File}, {Kind: api.Dir}, {Kind: api.Link, Mode: 511, Target: "a"}} {
		for _, number := range numbers {
			mode, uid, gid := n, n, n
			mode.Mode, uid.Uid, gid.Gid = number, number, number
			wantMode := number >= 0 && number <= 4095
			if n.Kind == api.Link {
				wantMode = number == 511
			}
			wantRight(t, mode, wantMode)
			wantRight(t, uid, number >= 0 && number <= 65535)
			wantRight(t, gid, number >= 0 && number <= 65535)
		}
	}
}

// TestEachRight: all nodes of some values of each field.
func TestEachRight(t *testing.T) {
	for kind := -1; kind <= 5; kind++ {
		for _, mode := range []int{-1, 0, 511, 4095, 4096} {
			for _, id := range []int{-1, 0, 65535, 65536} {
				for _, data := range []int{0, 1, 48, 49} {
					for _, ents := range [][]Ent{nil, {{"a", 1}}, {{"b", 1}, {"a", 1}}, {{"a", 0}}, {{".", 1}}, full().Ents} {
						for _, target := range []string{"", "a", "a\x00", strings.Repeat("a", 64), strings.Repeat("a", 65)} {
							n := Node{kind, mode, id, 7, make([]byte, data), ents, target}
							wantRight(t, n, secondRight(n))
							n.Uid, n.Gid = n.Gid, n.Uid
							wantRight(t, n, secondRight(n))
						}
					}
				}
			}
		}
	}
}

// TestRightNames: all pairs of short names as entries, so by bytes, and one that goes on another one behind it.
func TestRightNames(t *testing.T) {
	eachText("./a\x00\xff", 3, func(a string) {
		wantRight(t, dirOf(a), secondName(a))
		eachText("./a\x00\xff", 3, func(b string) {
			wantRight(t, dirOf(a, b), secondName(a) && secondName(b) && bytes.Compare([]byte(a), []byte(b)) < 0)
		})
	})
	for a := range 256 {
		for b := range 256 {
			first, second := string([]byte{'x', byte(a)}), string([]byte{'x', byte(b)})
			wantRight(t, dirOf(first, second), a < b && secondName(first) && secondName(second))
		}
	}
}

// TestRightCounts: up to eight entries may be, at each place of which a fault counts.
func TestRightCounts(t *testing.T) {
	names := strings.Split("a b c d e f g h i j k l", " ")
	for count := range len(names) + 1 {
		n := dirOf(names[:count]...)
		wantRight(t, n, count <= 8)
		for at := range count {
			for _, wrong := range []Ent{{names[at], 0}, {"", 1}, {"..", 1}, {names[at] + "/", 1}} {
				broken := deep(n)
				broken.Ents[at] = wrong
				wantRight(t, broken, false)
			}
			if at > 0 {
				broken := deep(n)
				broken.Ents[at-1], broken.Ents[at] = broken.Ents[at], broken.Ents[at-1]
				wantRight(t, broken, false)
				broken.Ents[at-1] = broken.Ents[at]
				wantRight(t, broken, false)
			}
		}
	}
}

// P8.2

func TestFind(t *testing.T) {
	n := Node{Kind: api.Dir, Ents: []Ent{{"b", 7}, {"a", 5}, {"b", 9}, {"", 4}, {"no", 0}, {"no", 3}, {"low", -2}, {"x/y", 6}, {"ab", 8}}}
	for _, c := range []struct {
		name string
		want int
	}{
		{"b", 7}, {"a", 5}, {"", 4}, {"no", 0}, {"low", -2}, {"x/y", 6}, {"ab", 8},
		{"c", 0}, {"A", 0}, {"B", 0}, {"x", 0}, {"b\x00", 0}, {"bb", 0}, {"lo", 0}, {" b", 0}, {".", 0},
	} {
		for kind := -1; kind <= 4; kind++ {
			n.Kind = kind
			if got := Find(n, c.name); got != c.want {
				t.Errorf("Find(.., %q) of kind %d = %d, want %d", c.name, kind, got, c.want)
			}
		}
	}
	for _, name := range []string{"", "a", "."} {
		if Find(Node{}, name) != 0 || Find(Node{Kind: api.Link, Target: name, Data: []byte(name)}, name) != 0 {
			t.Errorf("Find(.., %q) finds something in nothing", name)
		}
	}
	for i, name := range Names(full()) {
		if Find(full(), name) != i+1 {
			t.Errorf("Find(.., %q) isn't %d", name, i+1)
		}
	}
}

func TestNames(t *testing.T) {
	for _, c := range []struct{ names, want string }{
		{"a", "a"}, {"a b c", "a b c"}, {"c b a", "a b c"}, {"b a c", "a b c"}, {"ab a b aa", "a aa ab b"}, {"z é Z \xff \x01 .", "\x01 . Z z é \xff"},
		{"i h g f e d c b a j", "a b c d e f g h i j"}, {".. . /", ". .. /"},
		// Rising: each one is above the one ahead.
		{"a a", "a"}, {"b a b", "a b"}, {"a b a b b c", "a b c"},
	} {
		n := dirOf(strings.Split(c.names, " ")...)
		was := deep(n)
		for kind := -1; kind <= 4; kind++ {
			n.Kind = kind
			if got := Names(n); !slices.Equal(got, strings.Split(c.want, " ")) {
				t.Errorf("Names of %q, kind %d: %q", c.names, kind, got)
			}
		}
		if n.Kind = was.Kind; !equal(n, was) {
			t.Errorf("Names changed %q to %s", c.names, show(n))
		}
	}
	for _, n := range []Node{{}, {Kind: api.Dir}, {Kind: api.Dir, Ents: []Ent{}}, {Kind: api.Link, Target: "a"}} {
		if got := Names(n); len(got) != 0 {
			t.Errorf("Names(%s) = %q", show(n), got)
		}
	}
	if got := Names(dirOf("")); !slices.Equal(got, []string{""}) {
		t.Errorf("Names of an empty name: %q", got)
	}
}

func TestNamesInNewMemory(t *testing.T) {
	n := dirOf("a", "b")
	Names(n)[0] = "changed"
	if got := Names(n); !slices.Equal(got, []string{"a", "b"}) || !equal(n, dirOf("a", "b")) {
		t.Errorf("names are changed by who changes an answer: %q", got)
	}
}

func TestSize(t *testing.T) {
	for data := range 60 {
		for _, target := range []string{"", "a", "a/é", strings.Repeat("x", 70)} {
			for _, ents := range [][]Ent{nil, {}, {{"a", 1}}, {{"a", 0}, {"a", 1}, {"", 2}}, make([]Ent, 9)} {
				for kind := -2; kind <= 6; kind++ {
					n := Node{Kind: kind, Data: make([]byte, data), Ents: ents, Target: target}
					want := map[int]int{api.File: data, api.Dir: len(ents), api.Link: len(target)}[kind]
					if got := Size(n); got != want {
						t.Fatalf("Size(%s) = %d, want %d", show(n), got, want)
					}
				}
			}
		}
	}
	if Size(Node{Kind: api.Link, Target: "é"}) != 2 {
		t.Error("a target's bytes count, not its runes")
	}
}

// P8.3

func TestWith(t *testing.T) {
	for _, c := range []struct {
		ents []Ent
		name string
		want []Ent
	}{
		{nil, "a", []Ent{{"a", 9}}},
		{[]Ent{}, "a", []Ent{{"a", 9}}},
		{[]Ent{{"b", 2}}, "a", []Ent{{"a", 9}, {"b", 2}}},
		{[]Ent{{"b", 2}}, "c", []Ent{{"b", 2}, {"c", 9}}},
		{[]Ent{{"b", 2}}, "ba", []Ent{{"b", 2}, {"ba", 9}}},
		{[]Ent{{"ba", 2}}, "b", []Ent{{"b", 9}, {"ba", 2}}},
		{[]Ent{{"b", 2}}, "B", []Ent{{"B", 9}, {"b", 2}}},
		{[]Ent{{"z", 2}}, "é", []Ent{{"z", 2}, {"é", 9}}},
		{[]Ent{{"a", 2}, {"c", 1}, {"e", 9}}, "d", []Ent{{"a", 2}, {"c", 1}, {"d", 9}, {"e", 9}}},
		// Entries that don't rise, or may not be: ahead of the first greater one.
		{[]Ent{{"c", 1}, {"a", 2}}, "b", []Ent{{"b", 9}, {"c", 1}, {"a", 2}}},
		{[]Ent{{"a", 1}, {"z", 2}, {"c", 3}}, "b", []Ent{{"a", 1}, {"b", 9}, {"z", 2}, {"c", 3}}},
		{[]Ent{{"z", 1}, {"y", 2}, {"x", 3}}, "zz", []Ent{{"z", 1}, {"y", 2}, {"x", 3}, {"zz", 9}}},
		{[]Ent{{"a", 0}, {"a", -1}, {"", 0}, {"c/", 5}}, "c", []Ent{{"a", 0}, {"a", -1}, {"", 0}, {"c", 9}, {"c/", 5}}},
	} {
		n := Node{Kind: api.Dir, Ents: c.ents}
		got, err := With(n, c.name, 9)
		wantNode(t, fmt.Sprintf("With(%s, %q, 9)", show(n), c.name), got, err, Node{Kind: api.Dir, Ents: c.want})
	}
	for _, id := range []int{1, 2, 24, 25, math.MaxInt} {
		got, err := With(Node{Kind: api.Dir}, "a", id)
		wantNode(t, fmt.Sprint("With a, ", id), got, err, Node{Kind: api.Dir, Ents: []Ent{{"a", id}}})
	}
}

// TestWithFaults: of all faults that hold the first one is told.
func TestWithFaults(t *testing.T) {
	long := strings.Repeat("x", 13)
	file, crowded := full(), full()
	file.Kind = api.File
	crowded.Ents = append(crowded.Ents, Ent{"r", 1}, Ent{"t", 2})
	odd := Node{Kind: api.Dir, Ents: []Ent{{"", 1}, {"..", 2}, {"a/b", 3}, {long, 4}, {"no", 0}, {"low", -1}}}
	for _, c := range []struct {
		n    Node
		name string
		id   int
		want api.Errno
	}{
		{file, "a", 1, api.ENOTDIR}, {file, "", 0, api.ENOTDIR}, {file, long, 1, api.ENOTDIR}, {file, "b", 1, api.ENOTDIR},
		{Node{}, "a", 1, api.ENOTDIR}, {Node{Kind: api.Link, Mode: 511, Target: "a"}, "a", 1, api.ENOTDIR}, {Node{Kind: 4}, "a", 1, api.ENOTDIR}, {Node{Kind: -2}, "a", 1, api.ENOTDIR},
		{dirOf(), "a", 0, api.EINVAL}, {dirOf(), "a", -1, api.EINVAL}, {dirOf(), "a", math.MinInt, api.EINVAL},
		{dirOf(), "", 1, api.EINVAL}, {dirOf(), ".", 1, api.EINVAL}, {dirOf(), "..", 1, api.EINVAL}, {dirOf(), "/", 1, api.EINVAL}, {dirOf(), "\x00", 1, api.EINVAL},
		{dirOf(), "a/b", 1, api.EINVAL}, {dirOf(), "/a", 1, api.EINVAL}, {dirOf(), "a/", 1, api.EINVAL}, {dirOf(), "a\x00", 1, api.EINVAL}, {dirOf(), "../", 1, api.EINVAL},
		{dirOf(), long, 0, api.EINVAL}, {dirOf(), long + "/", 1, api.EINVAL}, {dirOf(), "\x00" + long, 1, api.EINVAL}, {dirOf(), strings.Repeat("a/", 50), 1, api.EINVAL},
		{full(), "b", 0, api.EINVAL}, {full(), "c", 0, api.EINVAL}, {full(), "", 1, api.EINVAL}, {odd, "", 1, api.EINVAL}, {odd, "..", 1, api.EINVAL}, {odd, "a/b", 1, api.EINVAL},
		{dirOf(), long, 1, api.ENAMETOOLONG}, {dirOf(), strings.Repeat(".", 13), 1, api.ENAMETOOLONG}, {dirOf(), strings.Repeat("é", 7), 1, api.ENAMETOOLONG}, {dirOf(), strings.Repeat("x", 70000), 1, api.ENAMETOOLONG},
		{full(), long, 1, api.ENAMETOOLONG}, {odd, long, 1, api.ENAMETOOLONG},
		{dirOf("a"), "a", 1, api.EEXIST}, {dirOf("a", "b"), "b", 3, api.EEXIST}, {dirOf("b", "a"), "a", 3, api.EEXIST}, {full(), "b", 9, api.EEXIST}, {full(), "p", 9, api.EEXIST}, {crowded, "t", 9, api.EEXIST},
		{odd, "no", 1, api.EEXIST}, {odd, "low", 1, api.EEXIST},
		{full(), "a", 1, api.ENOSPC}, {full(), "z", 1, api.ENOSPC}, {crowded, "a", 1, api.ENOSPC},
	} {
		was := deep(c.n)
		got, err := With(c.n, c.name, c.id)
		wantFault(t, fmt.Sprintf("With(%s, %.20q, %d)", show(c.n), c.name, c.id), got, err, c.want)
		if !equal(c.n, was) {
			t.Errorf("With(%s, %.20q, %d) changed the node", show(was), c.name, c.id)
		}
	}
}

// TestWithEachName: all short names, and each byte at each place of names around their limit.
func TestWithEachName(t *testing.T) {
	n := dirOf("-", "a", "a.", "aa", "x")
	eachText("./a\x00", 5, func(name string) { holdAgainstSecondReading(t, n, name, 1) })
	for length := 1; length <= 15; length++ {
		for at := range length {
			for b := range 256 {
				name := []byte(strings.Repeat("x", length))
				name[at] = byte(b)
				holdAgainstSecondReading(t, n, string(name), 1)
			}
		}
	}
}

func TestWithout(t *testing.T) {
	for _, c := range []struct {
		ents []Ent
		name string
		want []Ent
	}{
		{[]Ent{{"a", 1}}, "a", nil},
		{[]Ent{{"a", 1}, {"b", 2}, {"c", 3}}, "a", []Ent{{"b", 2}, {"c", 3}}},
		{[]Ent{{"a", 1}, {"b", 2}, {"c", 3}}, "b", []Ent{{"a", 1}, {"c", 3}}},
		{[]Ent{{"a", 1}, {"b", 2}, {"c", 3}}, "c", []Ent{{"a", 1}, {"b", 2}}},
		{[]Ent{{"a", 1}, {"b", 1}}, "b", []Ent{{"a", 1}}},
		// Entries that may not be: the first such one alone is taken.
		{[]Ent{{"b", 1}, {"a", 2}, {"b", 3}}, "b", []Ent{{"a", 2}, {"b", 3}}},
		{[]Ent{{"a", 1}, {"a", 1}}, "a", []Ent{{"a", 1}}},
		{[]Ent{{"", 1}, {"..", 0}, {"no", 0}}, "", []Ent{{"..", 0}, {"no", 0}}},
		{[]Ent{{"", 1}, {"..", 0}, {"no", 0}}, "..", []Ent{{"", 1}, {"no", 0}}},
		{[]Ent{{"", 1}, {"..", 0}, {"no", 0}}, "no", []Ent{{"", 1}, {"..", 0}}},
		{append(full().Ents, Ent{"r", 1}), "b", append(full().Ents[1:], Ent{"r", 1})},
	} {
		n := Node{Kind: api.Dir, Ents: c.ents}
		got, err := Without(n, c.name)
		wantNode(t, fmt.Sprintf("Without(%s, %q)", show(n), c.name), got, err, Node{Kind: api.Dir, Ents: c.want})
	}
}

func TestWithoutFaults(t *testing.T) {
	for _, kind := range []int{api.File, api.Link, 0, 4, -1, -2} {
		n := dirOf("a")
		n.Kind = kind
		for _, name := range []string{"a", "b", ""} {
			got, err := Without(n, name)
			wantFault(t, fmt.Sprintf("Without(%s, %q)", show(n), name), got, err, api.ENOTDIR)
		}
	}
	for _, n := range []Node{{Kind: api.Dir}, dirOf("a"), dirOf("bb", "aa", "cc"), full()} {
		for _, name := range []string{"", ".", "..", "/", "A", "aaa", "a\x00", "c", "ab", strings.Repeat("a", 13), strings.Repeat("a", 70000)} {
			got, err := Without(n, name)
			wantFault(t, fmt.Sprintf("Without(%s, %.20q)", show(n), name), got, err, api.ENOENT)
		}
	}
}

// TestOtherFieldsStay: what isn't Right is handed in, too; its fields are kept.
func TestOtherFieldsStay(t *testing.T) {
	n := Node{api.Dir, 5000, -3, 70000, []byte("data"), []Ent{{"b", 2}}, "target"}
	want := n
	want.Ents = []Ent{{"a", 1}, {"b", 2}}
	got, err := With(n, "a", 1)
	wantNode(t, "With a", got, err, want)
	got, err = Without(n, "b")
	want.Ents = nil
	wantNode(t, "Without b", got, err, want)
}

// TestNewMemory: neither the node that was handed in nor the answer is changed by who changes the other one.
func TestNewMemory(t *testing.T) {
	makers := map[string]func(Node) (Node, api.Errno){
		"With a":    func(n Node) (Node, api.Errno) { return With(n, "a", 7) },
		"With c":    func(n Node) (Node, api.Errno) { return With(n, "c", 7) },
		"With z":    func(n Node) (Node, api.Errno) { return With(n, "z", 7) },
		"Without b": func(n Node) (Node, api.Errno) { return Without(n, "b") },
		"Without d": func(n Node) (Node, api.Errno) { return Without(n, "d") },
		"Without f": func(n Node) (Node, api.Errno) { return Without(n, "f") },
	}
	for what, f := range makers {
		// There is room behind the lists, into which nothing may be written.
		ents := []Ent{{"b", 1}, {"d", 2}, {"f", 3}, {"kept", 4}, {"kept", 5}}
		data := []byte("abc")
		n := Node{Kind: api.Dir, Ents: ents[:3], Data: data[:2]}
		first, _ := f(n)
		wasFirst := deep(first)
		second, _ := f(n)
		for i := range second.Ents {
			second.Ents[i] = Ent{"changed", 0}
		}
		second.Data[0] = 'x'
		if !reflect.DeepEqual(ents, []Ent{{"b", 1}, {"d", 2}, {"f", 3}, {"kept", 4}, {"kept", 5}}) || string(data) != "abc" {
			t.Errorf("%s: who changes the answer changes what was handed in: %v, %q", what, ents, data)
		}
		for i := range ents {
			ents[i] = Ent{"changed", 0}
		}
		data[0] = 'x'
		if !equal(first, wasFirst) {
			t.Errorf("%s: who changes what was handed in changes the answer: %s", what, show(first))
		}
	}
}

// TestAllDirectories: all lists of up to four entries of some names, right or not, with and without each name.
func TestAllDirectories(t *testing.T) {
	names := []string{"", "a", "aa", "b", "..", "a/"}
	var grow func(ents []Ent)
	grow = func(ents []Ent) {
		n := Node{Kind: api.Dir, Mode: 1, Ents: ents}
		wantRight(t, n, secondRight(n))
		for i, name := range names {
			holdAgainstSecondReading(t, n, name, i)
			holdAgainstSecondReading(t, n, name, 3)
		}
		if len(ents) < 4 {
			for i, name := range names {
				grow(append(slices.Clone(ents), Ent{name, (i + len(ents)) % 5}))
			}
		}
	}
	grow(nil)
}

// P8.4

// variants is n with one field other than it is, each in some ways.
func variants(n Node) []Node {
	var all []Node
	add := func(change func(*Node)) {
		v := deep(n)
		change(&v)
		all = append(all, v)
	}
	for _, by := range []int{1, -1, 4096, 1 << 32, math.MinInt} {
		add(func(v *Node) { v.Kind += by })
		add(func(v *Node) { v.Mode += by })
		add(func(v *Node) { v.Uid += by })
		add(func(v *Node) { v.Gid += by })
	}
	add(func(v *Node) { v.Target += "x" })
	add(func(v *Node) { v.Target += "\x00" })
	add(func(v *Node) { v.Data = append(v.Data, 0) })
	add(func(v *Node) { v.Ents = append(v.Ents, Ent{}) })
	for i := range n.Data {
		add(func(v *Node) { v.Data[i]++ })
		add(func(v *Node) { v.Data = v.Data[:i] })
	}
	for i := range n.Ents {
		add(func(v *Node) { v.Ents[i].Node++ })
		add(func(v *Node) { v.Ents[i].Name += "x" })
		add(func(v *Node) { v.Ents = v.Ents[:i] })
		if i > 0 {
			add(func(v *Node) { v.Ents[i-1], v.Ents[i] = v.Ents[i], v.Ents[i-1] })
		}
	}
	return all
}

func TestSame(t *testing.T) {
	for _, n := range []Node{
		{}, {Kind: api.File}, {Kind: api.File, Data: []byte("abc")}, {Kind: api.Dir}, full(), dirOf("b", "a", "b"), {Kind: api.Link, Mode: 511, Target: "a"},
		{Kind: 9, Mode: -1, Uid: 3, Gid: 4, Data: []byte{0, 0}, Ents: []Ent{{}, {"a", 1}}, Target: "t"},
	} {
		if !Same(n, n) || !Same(n, deep(n)) {
			t.Errorf("%s isn't the same as itself", show(n))
		}
		for _, v := range variants(n) {
			if Same(n, v) || Same(v, n) {
				t.Errorf("%s and %s are the same", show(n), show(v))
			}
		}
	}
	// What one field loses isn't made up for by another one.
	for _, pair := range [][2]Node{
		{{Mode: 1}, {Uid: 1}}, {{Uid: 1, Gid: 2}, {Uid: 2, Gid: 1}}, {{Data: []byte("a")}, {Target: "a"}}, {{Kind: 1, Mode: 2}, {Kind: 2, Mode: 1}},
		{dirOf("a"), dirOf("a", "a")}, {dirOf("ab", "c"), dirOf("a", "bc")},
	} {
		if Same(pair[0], pair[1]) || Same(pair[1], pair[0]) {
			t.Errorf("%s and %s are the same", show(pair[0]), show(pair[1]))
		}
	}
}

func TestSameEmptyLists(t *testing.T) {
	lists := []Node{{}, {Data: []byte{}}, {Ents: []Ent{}}, {Data: []byte{}, Ents: []Ent{}}, {Data: make([]byte, 0, 9), Ents: make([]Ent, 0, 9)}}
	for _, a := range lists {
		for _, b := range lists {
			if !Same(a, b) {
				t.Errorf("%s and %s aren't the same", show(a), show(b))
			}
		}
	}
}

// P8.5

// TestRightStays: many ways to grow and to shrink a directory, with a seed that stays.
func TestRightStays(t *testing.T) {
	const signs = "ab./\x00\xff"
	chance := rand.New(rand.NewSource(8))
	for range 500 {
		n := Node{Kind: api.Dir, Mode: chance.Intn(4096), Uid: chance.Intn(65536), Gid: chance.Intn(65536)}
		most := 1 + chance.Intn(14)
		for range 200 {
			name := make([]byte, chance.Intn(most))
			for i := range name {
				name[i] = signs[chance.Intn(len(signs))]
			}
			holdAgainstSecondReading(t, n, string(name), chance.Intn(26)-1)
			next, err := With(n, string(name), chance.Intn(26)-1)
			if len(n.Ents) > 0 && chance.Intn(3) == 0 {
				next, err = Without(n, n.Ents[chance.Intn(len(n.Ents))].Name)
			}
			if err != api.OK {
				continue
			}
			if !Right(next) || !secondRight(next) {
				t.Fatalf("%s became %s, which isn't Right", show(n), show(next))
			}
			n = next
		}
	}
}

// TestThereAndBack: an entry that is added and taken away again leaves the node as it was.
func TestThereAndBack(t *testing.T) {
	n := dirOf()
	for i, name := range []string{"m", "b", "z", "ma", "a", "zz", "n", "A"} {
		more, err := With(n, name, i+2)
		if err != api.OK || !Right(more) || Find(more, name) != i+2 || Find(n, name) != 0 || Size(more) != i+1 {
			t.Fatalf("With(%s, %q, %d) = %s, %v", show(n), name, i+2, show(more), err)
		}
		less, err := Without(more, name)
		if err != api.OK || !Right(less) || !Same(less, n) || Same(less, more) {
			t.Fatalf("Without(%s, %q) = %s, %v", show(more), name, show(less), err)
		}
		n = more
	}
	if got := Names(n); strings.Join(got, " ") != "A a b m ma n z zz" {
		t.Errorf("Names = %q", got)
	}
}
