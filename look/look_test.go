package look

import (
	"math"
	"math/rand"
	"slices"
	"strings"
	"testing"

	"gaoler/api"
	"gaoler/build"
	"gaoler/node"
	"gaoler/resolve"
	"gaoler/table"
)

var (
	allRoot  = api.Cred{}
	ann      = api.Cred{Uid: 1, Gid: 1}
	bob      = api.Cred{Uid: 2, Gid: 2, Groups: []int{3}}
	cat      = api.Cred{Uid: 9, Gid: 9}
	everyone = []api.Cred{allRoot, ann, bob, cat}
)

// Nodes that are told are ann's, but links, which are root's; all of them are of group 3.

func dirAt(parent int, name string, mode int) build.Raw {
	return build.Raw{Kind: api.Dir, Mode: mode, Uid: 1, Gid: 3, Parent: parent, Name: name}
}

func fileAt(parent int, name, data string) build.Raw {
	return build.Raw{Kind: api.File, Mode: 0o640, Uid: 1, Gid: 3, Parent: parent, Name: name, Data: []byte(data)}
}

func linkAt(parent int, name, target string) build.Raw {
	return build.Raw{Kind: api.Link, Mode: 511, Gid: 3, Parent: parent, Name: name, Target: target}
}

func againAt(parent int, name string, id int) build.Raw {
	return build.Raw{Kind: build.Again, Parent: parent, Name: name, Node: id}
}

func built(t *testing.T, l ...build.Raw) *table.Table {
	t.Helper()
	x, place, err := build.Build(api.CapMax, l)
	if err != api.OK {
		t.Fatalf("what is told is wrong at %d: %v", place, err)
	}
	return x
}

// sample has nodes of each kind, links of each sort, and directories that are shut.
func sample(t *testing.T) *table.Table {
	t.Helper()
	return built(t,
		dirAt(0, "", 0o755),              // 1
		dirAt(1, "d", 0o755),             // 2
		fileAt(2, "f", "hi"),             // 3
		linkAt(1, "s", "d/f"),            // 4
		linkAt(1, "dir", "d"),            // 5
		linkAt(1, "dangles", "none"),     // 6
		linkAt(1, "self", "self"),        // 7
		dirAt(1, "shut", 0o700),          // 8
		fileAt(8, "f", "in"),             // 9
		linkAt(8, "l", "f"),              // 10
		againAt(2, "g", 3),               // one more entry of 3
		linkAt(1, "into", "shut/f"),      // 11
		dirAt(2, "empty", 0o755),         // 12
		linkAt(2, "chain", "../s"),       // 13
		againAt(12, "same", 13),          // one more entry of 13
		linkAt(2, "top", "/"),            // 14
		linkAt(2, "on", "../dangles"),    // 15
		linkAt(2, "aside", "../d/empty"), // 16
	)
}

func wantOf(t *testing.T, x *table.Table, i int, want api.Stat) {
	t.Helper()
	if got, is := Of(x, i); got != want || !is {
		t.Errorf("Of(.., %d) = %v, %v, want %v", i, got, is, want)
	}
}

func wantNone(t *testing.T, x *table.Table, i int) {
	t.Helper()
	if got, is := Of(x, i); got != (api.Stat{}) || is {
		t.Errorf("Of(.., %d) = %v, %v, where there is none", i, got, is)
	}
}

type asks func(*table.Table, api.Cred, string) (api.Stat, api.Errno)

func wantStat(t *testing.T, ask asks, x *table.Table, c api.Cred, path string, want api.Stat) {
	t.Helper()
	if got, err := ask(x, c, path); got != want || err != api.OK {
		t.Errorf("of %.80q, to %d: %v, %v, want %v", path, c.Uid, got, err, want)
	}
}

// wantNode asks for the number of the node that is told of, and for all of it as Of tells it.
func wantNode(t *testing.T, ask asks, x *table.Table, c api.Cred, path string, id int) {
	t.Helper()
	want, is := Of(x, id)
	if !is || want.Node != id {
		t.Fatalf("there is no node %d", id)
	}
	wantStat(t, ask, x, c, path, want)
}

func wantFault(t *testing.T, ask asks, x *table.Table, c api.Cred, path string, want api.Errno) {
	t.Helper()
	if got, err := ask(x, c, path); got != (api.Stat{}) || err != want {
		t.Errorf("of %.80q, to %d: %v, %v, want %v", path, c.Uid, got, err, want)
	}
}

func wantLink(t *testing.T, x *table.Table, c api.Cred, path, want string, wantErr api.Errno) {
	t.Helper()
	if got, err := Readlink(x, c, path); got != want || err != wantErr {
		t.Errorf("Readlink(to %d, %.80q) = %q, %v, want %q, %v", c.Uid, path, got, err, want, wantErr)
	}
}

func wantList(t *testing.T, x *table.Table, c api.Cred, path, want string) {
	t.Helper()
	if got, err := List(x, c, path); !slices.Equal(got, strings.Fields(want)) || err != api.OK {
		t.Errorf("List(to %d, %.80q) = %q, %v, want %q", c.Uid, path, got, err, want)
	}
}

func wantNoList(t *testing.T, x *table.Table, c api.Cred, path string, want api.Errno) {
	t.Helper()
	if got, err := List(x, c, path); len(got) != 0 || err != want {
		t.Errorf("List(to %d, %.80q) = %q, %v, want %v", c.Uid, path, got, err, want)
	}
}

func TestChapterExamples(t *testing.T) {
	x := built(t, dirAt(0, "", 0o755), dirAt(1, "d", 0o755), fileAt(2, "f", "hi"), linkAt(1, "s", "d/f"))
	wantStat(t, Stat, x, cat, "s", api.Stat{Node: 3, Kind: api.File, Mode: 0o640, Uid: 1, Gid: 3, Links: 1, Size: 2})
	wantStat(t, Lstat, x, cat, "s", api.Stat{Node: 4, Kind: api.Link, Mode: 511, Gid: 3, Links: 1, Size: 3})
	wantLink(t, x, cat, "d", "", api.EINVAL)
}

// P12.1

func TestOf(t *testing.T) {
	x := sample(t)
	wantOf(t, x, 1, api.Stat{Node: 1, Kind: api.Dir, Mode: 0o755, Uid: 1, Gid: 3, Links: 0, Size: 7})
	wantOf(t, x, 2, api.Stat{Node: 2, Kind: api.Dir, Mode: 0o755, Uid: 1, Gid: 3, Links: 1, Size: 7})
	wantOf(t, x, 3, api.Stat{Node: 3, Kind: api.File, Mode: 0o640, Uid: 1, Gid: 3, Links: 2, Size: 2})
	wantOf(t, x, 4, api.Stat{Node: 4, Kind: api.Link, Mode: 511, Gid: 3, Links: 1, Size: 3})
	wantOf(t, x, 8, api.Stat{Node: 8, Kind: api.Dir, Mode: 0o700, Uid: 1, Gid: 3, Links: 1, Size: 2})
	wantOf(t, x, 12, api.Stat{Node: 12, Kind: api.Dir, Mode: 0o755, Uid: 1, Gid: 3, Links: 1, Size: 1})
	wantOf(t, x, 13, api.Stat{Node: 13, Kind: api.Link, Mode: 511, Gid: 3, Links: 2, Size: 4})
}

func TestOfAllNumbers(t *testing.T) {
	x := built(t, dirAt(0, "", 0o755), fileAt(1, "f", ""))
	for mode := range 4096 {
		for _, kind := range []int{api.File, api.Dir} {
			if err := x.Put(2, node.Node{Kind: kind, Mode: mode, Uid: 7, Gid: 8}); err != api.OK {
				t.Fatal(err)
			}
			wantOf(t, x, 2, api.Stat{Node: 2, Kind: kind, Mode: mode, Uid: 7, Gid: 8, Links: 1})
		}
	}
	ids := []int{0, 1, 2, 255, 256, 65534, 65535}
	for _, uid := range ids {
		for _, gid := range ids {
			if err := x.Put(2, node.Node{Kind: api.Link, Mode: 511, Uid: uid, Gid: gid, Target: "é"}); err != api.OK {
				t.Fatal(err)
			}
			wantOf(t, x, 2, api.Stat{Node: 2, Kind: api.Link, Mode: 511, Uid: uid, Gid: gid, Links: 1, Size: 2})
		}
	}
}

func TestOfEachSize(t *testing.T) {
	for size := range api.DataMax + 1 {
		x := built(t, dirAt(0, "", 0), fileAt(1, "f", strings.Repeat("\x00", size)))
		wantOf(t, x, 2, api.Stat{Node: 2, Kind: api.File, Mode: 0o640, Uid: 1, Gid: 3, Links: 1, Size: size})
	}
	for size := 1; size <= api.PathMax; size++ {
		x := built(t, dirAt(0, "", 0), linkAt(1, "l", strings.Repeat("/", size)))
		wantOf(t, x, 2, api.Stat{Node: 2, Kind: api.Link, Mode: 511, Gid: 3, Links: 1, Size: size})
	}
	told := []build.Raw{dirAt(0, "", 0o311), fileAt(1, "f", "")}
	for size := 1; size <= api.EntMax; size++ {
		x := built(t, told...)
		wantOf(t, x, 1, api.Stat{Node: 1, Kind: api.Dir, Mode: 0o311, Uid: 1, Gid: 3, Size: size})
		wantOf(t, x, 2, api.Stat{Node: 2, Kind: api.File, Mode: 0o640, Uid: 1, Gid: 3, Links: size})
		told = append(told, againAt(1, strings.Repeat("f", size+1), 2))
	}
}

func TestOfWhatIsOpen(t *testing.T) {
	x := built(t, dirAt(0, "", 0o755))
	id, err := x.Add(node.Node{Kind: api.File, Mode: 0o4755, Uid: 5, Gid: 6, Data: []byte("abc")})
	if err != api.OK || !x.Right(id) {
		t.Fatal(err)
	}
	wantOf(t, x, id, api.Stat{Node: 2, Kind: api.File, Mode: 0o4755, Uid: 5, Gid: 6, Size: 3})
}

func TestOfNone(t *testing.T) {
	x := sample(t)
	for _, i := range []int{math.MinInt, -1, 0, 17, 24, 25, 1<<32 + 1, math.MaxInt} {
		wantNone(t, x, i)
		wantNone(t, nil, i)
	}
	wantNone(t, nil, 1)
	wantNone(t, table.New(3), 1)
	// An entry that leads to a node that is gone has none either.
	x.Drop(3)
	wantNone(t, x, 3)
}

// P12.2

func TestStatFollows(t *testing.T) {
	x := sample(t)
	for path, id := range map[string]int{
		"s": 3, "/s": 3, "d/chain": 3, "dir": 2, "d/top": 1, "d/aside": 12, "dir/empty": 12,
	} {
		wantNode(t, Stat, x, cat, path, id)
	}
	// The same link as d/chain, from another directory, leads elsewhere.
	wantFault(t, Stat, x, cat, "d/empty/same", api.ENOENT)
	for path, id := range map[string]int{
		"s": 4, "/s": 4, "d/chain": 13, "dir": 5, "d/top": 14, "d/aside": 16, "dir/chain": 13, "d/empty/same": 13,
		"dangles": 6, "self": 7, "into": 11, "d/on": 15,
	} {
		wantNode(t, Lstat, x, cat, path, id)
	}
}

func TestBothAreToldAlike(t *testing.T) {
	x := sample(t)
	for path, id := range map[string]int{
		"/": 1, ".": 1, "..": 1, "d/..": 1, "d": 2, "/d": 2, "d/": 2, "d/.": 2, "dir/": 2, "dir/.": 2, "d/aside/": 12,
		"d/f": 3, "d/g": 3, "dir/f": 3, "dir/g": 3, "//d//./../d/f": 3, "d/top/d/g": 3, "d/aside/../f": 3, "shut": 8, "d/empty": 12,
	} {
		for _, c := range everyone {
			wantNode(t, Stat, x, c, path, id)
			wantNode(t, Lstat, x, c, path, id)
		}
	}
}

func TestNothingOfTheNodeIsNeeded(t *testing.T) {
	x := built(t, dirAt(0, "", 0o711), dirAt(1, "d", 0), build.Raw{Kind: api.File, Parent: 1, Name: "f"})
	for _, ask := range []asks{Stat, Lstat} {
		wantStat(t, ask, x, cat, "d", api.Stat{Node: 2, Kind: api.Dir, Uid: 1, Gid: 3, Links: 1})
		wantStat(t, ask, x, cat, "f", api.Stat{Node: 3, Kind: api.File, Links: 1})
		wantFault(t, ask, x, cat, "d/", api.EACCES)
	}
}

func TestWhatIsNotThere(t *testing.T) {
	x := sample(t)
	for _, path := range []string{"x", "/x", "d/x", "d/empty/x", "dir/x", "x/", "x/y", "dangles/", "dangles/x", "..."} {
		for _, c := range everyone {
			wantFault(t, Stat, x, c, path, api.ENOENT)
			wantFault(t, Lstat, x, c, path, api.ENOENT)
			wantLink(t, x, c, path, "", api.ENOENT)
			wantNoList(t, x, c, path, api.ENOENT)
		}
	}
	for _, path := range []string{"dangles", "d/on"} {
		wantFault(t, Stat, x, allRoot, path, api.ENOENT)
		wantNoList(t, x, allRoot, path, api.ENOENT)
	}
}

func TestErrorsOfPaths(t *testing.T) {
	x := sample(t)
	for _, c := range []struct {
		path string
		want api.Errno
	}{
		{"", api.ENOENT}, {strings.Repeat("/", 65), api.ENAMETOOLONG}, {strings.Repeat("\x00", 65), api.ENAMETOOLONG},
		{"\x00", api.EINVAL}, {"d/f\x00", api.EINVAL}, {"x/\x00", api.EINVAL},
		{strings.Repeat("n", 13), api.ENAMETOOLONG}, {"d/" + strings.Repeat("n", 13), api.ENAMETOOLONG},
		{"d/f/", api.ENOTDIR}, {"d/f/x", api.ENOTDIR}, {"s/", api.ENOTDIR}, {"s/..", api.ENOTDIR},
		{"shut/f", api.EACCES}, {"shut/x", api.EACCES}, {"shut/l", api.EACCES}, {"shut/", api.EACCES}, {"shut/..", api.EACCES},
		{"self/", api.ELOOP}, {"self/x", api.ELOOP},
	} {
		wantFault(t, Stat, x, cat, c.path, c.want)
		wantFault(t, Lstat, x, cat, c.path, c.want)
		wantLink(t, x, cat, c.path, "", c.want)
		wantNoList(t, x, cat, c.path, c.want)
	}
	wantFault(t, Stat, x, cat, "self", api.ELOOP)
	wantNoList(t, x, cat, "self", api.ELOOP)
	wantFault(t, Stat, x, cat, "into", api.EACCES)
	wantNoList(t, x, cat, "into", api.EACCES)
	wantNode(t, Stat, x, ann, "into", 9)
	wantNoList(t, x, ann, "into", api.ENOTDIR)
}

func TestTablesWithoutNodeOne(t *testing.T) {
	gone := sample(t)
	gone.Drop(1)
	for _, x := range []*table.Table{nil, table.New(9), gone} {
		for path, want := range map[string]api.Errno{
			"": api.ENOENT, "/": api.ENOENT, "d": api.ENOENT, "d/f": api.ENOENT, "s": api.ENOENT, "..": api.ENOENT,
			strings.Repeat("n", 13): api.ENOENT, strings.Repeat("/", 65): api.ENAMETOOLONG, "\x00": api.EINVAL,
		} {
			wantFault(t, Stat, x, allRoot, path, want)
			wantFault(t, Lstat, x, allRoot, path, want)
			wantLink(t, x, allRoot, path, "", want)
			wantNoList(t, x, allRoot, path, want)
		}
	}
}

// P12.3

func TestReadlink(t *testing.T) {
	x := sample(t)
	for path, target := range map[string]string{
		"s": "d/f", "/s": "d/f", "./d/../s": "d/f", "dir": "d", "dangles": "none", "self": "self", "into": "shut/f",
		"d/chain": "../s", "dir/chain": "../s", "d/empty/same": "../s", "d/aside/same": "../s", "d/top": "/", "d/top/d/top": "/",
	} {
		for _, c := range everyone {
			wantLink(t, x, c, path, target, api.OK)
		}
	}
	wantLink(t, x, ann, "shut/l", "f", api.OK)
	wantLink(t, x, bob, "shut/l", "", api.EACCES)
	for _, path := range []string{"/", ".", "..", "d", "d/", "dir/", "dir/.", "d/f", "dir/g", "d/empty", "d/top/", "d/top/d", "shut"} {
		for _, c := range everyone {
			wantLink(t, x, c, path, "", api.EINVAL)
		}
	}
}

func TestReadlinkOfLongTargets(t *testing.T) {
	for _, target := range []string{"x", "//", "\xff\x01", strings.Repeat("n", 13), strings.Repeat("../", 21) + "x"} {
		x := built(t, dirAt(0, "", 0o711), linkAt(1, "l", target))
		wantLink(t, x, cat, "l", target, api.OK)
	}
}

func TestList(t *testing.T) {
	x := sample(t)
	top := "d dangles dir into s self shut"
	below := "aside chain empty f g on top"
	for path, want := range map[string]string{
		"/": top, ".": top, "..": top, "d/..": top, "d/top": top, "d/top/": top,
		"d": below, "d/": below, "dir": below, "dir/.": below, "d/top/d": below, "d/empty": "same", "d/aside": "same",
	} {
		for _, c := range everyone {
			wantList(t, x, c, path, want)
		}
	}
	for _, path := range []string{"d/f", "s", "d/chain", "dir/g"} {
		for _, c := range everyone {
			wantNoList(t, x, c, path, api.ENOTDIR)
		}
	}
	wantList(t, x, ann, "shut", "f l")
	wantList(t, x, allRoot, "shut", "f l")
	wantNoList(t, x, bob, "shut", api.EACCES)
	wantNoList(t, x, cat, "shut", api.EACCES)
	wantList(t, built(t, dirAt(0, "", 0o444)), cat, "/", "")
}

func TestListOfNamesThatRise(t *testing.T) {
	told := []build.Raw{dirAt(0, "", 0o755)}
	for _, name := range []string{"b", "\xff", "a", "aa", "B", "...", "nnnnnnnnnnnn", "é"} {
		told = append(told, fileAt(1, name, ""))
	}
	wantList(t, built(t, told...), cat, "/", "... B a aa b nnnnnnnnnnnn é \xff")
}

func TestListNeedsToReadAlone(t *testing.T) {
	x := built(t, dirAt(0, "", 0o711), dirAt(1, "d", 0), fileAt(2, "f", ""), linkAt(1, "l", "d"))
	for mode := range 512 {
		dir := node.Node{Kind: api.Dir, Mode: mode, Uid: 1, Gid: 3, Ents: []node.Ent{{Name: "f", Node: 3}}}
		if err := x.Put(2, dir); err != api.OK {
			t.Fatal(err)
		}
		for _, c := range []struct {
			who api.Cred
			may bool
		}{{allRoot, true}, {ann, mode&0o400 != 0}, {bob, mode&0o040 != 0}, {cat, mode&0o004 != 0}} {
			for _, path := range []string{"d", "l"} {
				if c.may {
					wantList(t, x, c.who, path, "f")
				} else {
					wantNoList(t, x, c.who, path, api.EACCES)
				}
			}
		}
	}
}

func TestOfFilesThatMayNotBeRead(t *testing.T) {
	x := built(t, dirAt(0, "", 0o755), build.Raw{Kind: api.File, Parent: 1, Name: "f"}, linkAt(1, "l", "f"))
	// What kind it is is asked ahead of its bits.
	wantNoList(t, x, cat, "f", api.ENOTDIR)
	wantNoList(t, x, cat, "l", api.ENOTDIR)
	wantLink(t, x, cat, "f", "", api.EINVAL)
}

func TestNothingIsChanged(t *testing.T) {
	x := sample(t)
	before := x.Clone()
	groups := []int{3, 4}
	who := api.Cred{Uid: 2, Gid: 2, Groups: groups}
	for _, path := range []string{"", "/", "d", "d/f", "s", "dir/", "x", "self", "shut/l", "into", "d/empty/same"} {
		for range 2 {
			Stat(x, who, path)
			Lstat(x, who, path)
			Readlink(x, who, path)
			List(x, who, path)
		}
	}
	for i := range 26 {
		Of(x, i)
	}
	if !x.Same(before) || !slices.Equal(groups, []int{3, 4}) {
		t.Error("who looks changes something")
	}
}

func TestListInNewMemory(t *testing.T) {
	x := sample(t)
	before := x.Clone()
	names, _ := List(x, cat, "d")
	want := slices.Clone(names)
	names[0] = "changed"
	if got, _ := List(x, cat, "d"); !slices.Equal(got, want) || !x.Same(before) {
		t.Errorf("names are changed by who changes an answer: %q", got)
	}
}

// A second reading of the chapter, of many trees by chance of one seed.

func secondOf(x *table.Table, i int) (api.Stat, bool) {
	n, is := x.Get(i)
	if !is {
		return api.Stat{}, false
	}
	links := 0
	for from := range api.CapMax + 1 {
		above, _ := x.Get(from)
		for _, e := range above.Ents {
			if e.Node == i {
				links++
			}
		}
	}
	// Just one of the three has something, in what may be.
	size := len(n.Data) + len(n.Ents) + len(n.Target)
	return api.Stat{Node: i, Kind: n.Kind, Mode: n.Mode, Uid: n.Uid, Gid: n.Gid, Links: links, Size: size}, true
}

func secondStat(x *table.Table, c api.Cred, path string, follow bool) (api.Stat, api.Errno) {
	f, err := resolve.Resolve(x, c, path, follow)
	if err == api.OK && f.Node == 0 {
		err = api.ENOENT
	}
	if err != api.OK {
		return api.Stat{}, err
	}
	s, _ := secondOf(x, f.Node)
	return s, api.OK
}

func secondReadlink(x *table.Table, c api.Cred, path string) (string, api.Errno) {
	s, err := secondStat(x, c, path, false)
	if err == api.OK && s.Kind != 3 {
		err = api.EINVAL
	}
	n, _ := x.Get(s.Node)
	return n.Target, err
}

func secondList(x *table.Table, c api.Cred, path string) ([]string, api.Errno) {
	s, err := secondStat(x, c, path, true)
	if err == api.OK && s.Kind != 2 {
		err = api.ENOTDIR
	}
	if err == api.OK && !resolve.Can(x, c, s.Node, 4) {
		err = api.EACCES
	}
	if err != api.OK {
		return nil, err
	}
	var names []string
	n, _ := x.Get(s.Node)
	for _, e := range n.Ents {
		names = append(names, e.Name)
	}
	return names, api.OK
}

// holdAgainst asks for all that is told of a path, and hands over which errors came up.
func holdAgainst(t *testing.T, x *table.Table, c api.Cred, path string) []api.Errno {
	t.Helper()
	followed, errFollowed := secondStat(x, c, path, true)
	if got, err := Stat(x, c, path); got != followed || err != errFollowed {
		t.Errorf("Stat(to %d, %q) = %v, %v, want %v, %v, of %v", c.Uid, path, got, err, followed, errFollowed, build.Tell(x))
	}
	stayed, errStayed := secondStat(x, c, path, false)
	if got, err := Lstat(x, c, path); got != stayed || err != errStayed {
		t.Errorf("Lstat(to %d, %q) = %v, %v, want %v, %v, of %v", c.Uid, path, got, err, stayed, errStayed, build.Tell(x))
	}
	target, errLink := secondReadlink(x, c, path)
	if errLink != api.OK {
		target = ""
	}
	wantLink(t, x, c, path, target, errLink)
	names, errList := secondList(x, c, path)
	if got, err := List(x, c, path); !slices.Equal(got, names) || err != errList {
		t.Errorf("List(to %d, %q) = %q, %v, want %q, %v, of %v", c.Uid, path, got, err, names, errList, build.Tell(x))
	}
	return []api.Errno{errFollowed, errStayed, errLink, errList}
}

func somePath(r *rand.Rand, most int) string {
	pieces := []string{"a", "b", "c", "a", "b", "c", "d", ".", "..", "", "nnnnnnnnnnnnn"}
	var names []string
	for range 1 + r.Intn(most) {
		names = append(names, pieces[r.Intn(len(pieces))])
	}
	path := strings.Join(names, "/")
	if path == "" || r.Intn(3) == 0 {
		path = "/" + path
	}
	return path
}

func someMode(r *rand.Rand) int {
	if r.Intn(3) > 0 {
		return 0o755
	}
	return r.Intn(4096)
}

// someTree is a table that is Right, of nodes that were told by chance.
func someTree(r *rand.Rand) *table.Table {
	told := []build.Raw{{Kind: api.Dir, Mode: someMode(r), Uid: r.Intn(3), Gid: r.Intn(4)}}
	x, _, _ := build.Build(api.CapMax, told)
	for range r.Intn(40) {
		raw := build.Raw{Kind: 1 + r.Intn(4), Mode: someMode(r), Uid: r.Intn(3), Gid: r.Intn(4), Parent: 1 + r.Intn(len(told)), Name: string(rune('a' + r.Intn(4)))}
		switch raw.Kind {
		case api.File:
			raw.Data = make([]byte, r.Intn(49))
		case api.Link:
			raw.Mode, raw.Target = 511, somePath(r, 3)
		case build.Again:
			raw.Node = 1 + r.Intn(len(told))
		}
		more, _, err := build.Build(api.CapMax, append(slices.Clone(told), raw))
		if err == api.OK {
			x, told = more, append(told, raw)
		}
	}
	return x
}

func TestManyTrees(t *testing.T) {
	r := rand.New(rand.NewSource(12))
	var cameUp [4]map[api.Errno]int
	for of := range cameUp {
		cameUp[of] = map[api.Errno]int{}
	}
	for range 2000 {
		x := someTree(r)
		for i := -1; i <= api.CapMax+1; i++ {
			if want, is := secondOf(x, i); is {
				wantOf(t, x, i, want)
			} else {
				wantNone(t, x, i)
			}
		}
		for range 20 {
			for of, err := range holdAgainst(t, x, everyone[r.Intn(len(everyone))], somePath(r, 5)) {
				cameUp[of][err]++
			}
		}
	}
	all := []api.Errno{api.OK, api.ENOENT, api.EACCES, api.ENOTDIR, api.ENAMETOOLONG, api.ELOOP}
	for of, counts := range cameUp {
		for _, err := range all {
			if counts[err] < 50 {
				t.Errorf("%v came up %d times alone, of call %d", err, counts[err], of)
			}
		}
	}
	if cameUp[2][api.EINVAL] < 50 {
		t.Error("Readlink was hardly asked for what is no link")
	}
}
