package prune

import (
	"math"
	"math/rand"
	"slices"
	"strings"
	"testing"

	"gaoler/api"
	"gaoler/build"
	"gaoler/cred"
	"gaoler/node"
	"gaoler/resolve"
	"gaoler/table"
)

var (
	allRoot  = api.Cred{}
	ann      = api.Cred{Uid: 1, Gid: 1, Groups: []int{4}}
	bob      = api.Cred{Uid: 2, Gid: 2, Groups: []int{3}}
	cat      = api.Cred{Uid: 9, Gid: 9}
	noOne    = api.Cred{Uid: -1, Gid: -1, Groups: []int{-2}}
	everyone = []api.Cred{allRoot, ann, bob, cat, noOne}
)

// Nodes that are told are ann's, where by says nothing else; all of them are of group 3.

func dirAt(parent int, name string, mode int) build.Raw {
	return build.Raw{Kind: api.Dir, Mode: mode, Uid: 1, Gid: 3, Parent: parent, Name: name}
}

func fileAt(parent int, name string) build.Raw {
	return build.Raw{Kind: api.File, Mode: 0o644, Uid: 1, Gid: 3, Parent: parent, Name: name, Data: []byte("hi")}
}

func linkAt(parent int, name, target string) build.Raw {
	return build.Raw{Kind: api.Link, Mode: 511, Uid: 1, Gid: 3, Parent: parent, Name: name, Target: target}
}

func againAt(parent int, name string, id int) build.Raw {
	return build.Raw{Kind: build.Again, Parent: parent, Name: name, Node: id}
}

func by(uid int, raw build.Raw) build.Raw {
	raw.Uid = uid
	return raw
}

func built(t *testing.T, l ...build.Raw) *table.Table {
	t.Helper()
	x, place, err := build.Build(api.CapMax, l)
	if err != api.OK {
		t.Fatalf("what is told is wrong at %d: %v", place, err)
	}
	return x
}

// sample has nodes of each kind, links of each sort, and directories that are shut, or have Sticky.
func sample(t *testing.T) *table.Table {
	t.Helper()
	return built(t,
		dirAt(0, "", 0o755),                  // 1
		dirAt(1, "d", 0o755),                 // 2
		fileAt(2, "f"),                       // 3
		linkAt(1, "s", "d/f"),                // 4
		linkAt(1, "dir", "d"),                // 5
		linkAt(2, "dangles", "x"),            // 6
		linkAt(1, "self", "self"),            // 7
		dirAt(1, "shut", 0o700),              // 8
		fileAt(8, "f"),                       // 9
		dirAt(2, "e", 0o700),                 // 10
		dirAt(2, "full", 0o755),              // 11
		fileAt(11, "in"),                     // 12
		by(0, dirAt(1, "tmp", 0o1777)),       // 13
		by(1, fileAt(13, "ann")),             // 14
		by(2, fileAt(13, "bob")),             // 15
		by(1, dirAt(13, "anns", 0o755)),      // 16
		by(2, dirAt(13, "bobs", 0o755)),      // 17
		linkAt(2, "top", "/"),                // 18
		dirAt(1, "all", 0o777),               // 19
		dirAt(19, "q", 0o777),                // 20
		fileAt(19, "g"),                      // 21
		againAt(2, "two", 3),                 // one more entry of 3
		againAt(19, "l", 4),                  // one more entry of 4
		by(0, linkAt(13, "roots", "../tmp")), // 22
	)
}

func get(t *testing.T, x *table.Table, id int) node.Node {
	t.Helper()
	n, is := x.Get(id)
	if !is {
		t.Fatalf("there is no node %d", id)
	}
	return n
}

// put makes node id as it is wanted, ahead of a call.
func put(t *testing.T, x *table.Table, id int, n node.Node) {
	t.Helper()
	if err := x.Put(id, n); err != api.OK {
		t.Fatalf("node %d can't be %v: %v", id, n, err)
	}
}

// withMode makes a node's mode and owner as they are wanted, ahead of a call.
func withMode(t *testing.T, x *table.Table, id, mode, uid int) {
	t.Helper()
	n := get(t, x, id)
	n.Mode, n.Uid = mode, uid
	put(t, x, id, n)
}

// loose adds a node that no entry has.
func loose(t *testing.T, x *table.Table, n node.Node) int {
	t.Helper()
	id, err := x.Add(n)
	if err != api.OK {
		t.Fatal(err)
	}
	return id
}

// call is one call of the package, whose other arguments are known.
type call func(x *table.Table, c api.Cred) api.Errno

func unlink(path string, open ...int) call {
	return func(x *table.Table, c api.Cred) api.Errno { return Unlink(x, c, path, open...) }
}

func rmdir(path string) call {
	return func(x *table.Table, c api.Cred) api.Errno { return Rmdir(x, c, path) }
}

func rename(from, to string, open ...int) call {
	return func(x *table.Table, c api.Cred) api.Errno { return Rename(x, c, from, to, open...) }
}

// edit is a change of a table that a call is to make.
type edit func(t *testing.T, x *table.Table)

func loses(dir int, name string) edit {
	return func(t *testing.T, x *table.Table) {
		t.Helper()
		n := get(t, x, dir)
		many := len(n.Ents)
		n.Ents = slices.DeleteFunc(n.Ents, func(e node.Ent) bool { return e.Name == name })
		if len(n.Ents) != many-1 {
			t.Fatalf("%d has no %q", dir, name)
		}
		put(t, x, dir, n)
	}
}

func gains(dir int, name string, id int) edit {
	return func(t *testing.T, x *table.Table) {
		t.Helper()
		n := get(t, x, dir)
		n.Ents = append(n.Ents, node.Ent{Name: name, Node: id})
		slices.SortFunc(n.Ents, func(a, b node.Ent) int { return strings.Compare(a.Name, b.Name) })
		put(t, x, dir, n)
	}
}

func gone(id int) edit {
	return func(t *testing.T, x *table.Table) {
		t.Helper()
		if !x.Drop(id) {
			t.Fatalf("there is no node %d", id)
		}
	}
}

// wantDone asks for a call that makes these changes, and no other one, in a
// table that it leaves as it was; it is the table behind the call.
func wantDone(t *testing.T, x *table.Table, c api.Cred, do call, edits ...edit) *table.Table {
	t.Helper()
	did, want := x.Clone(), x.Clone()
	for _, change := range edits {
		change(t, want)
	}
	if err := do(did, c); err != api.OK {
		t.Errorf("by %d: %v", c.Uid, err)
	}
	if !did.Same(want) {
		t.Errorf("by %d: %v, want %v", c.Uid, build.Tell(did), build.Tell(want))
	}
	return did
}

func wantFault(t *testing.T, x *table.Table, c api.Cred, do call, want api.Errno) {
	t.Helper()
	before := x.Clone()
	if err := do(x, c); err != want {
		t.Errorf("by %d: %v, want %v", c.Uid, err, want)
	}
	if !x.Same(before) {
		t.Errorf("by %d: a call that fails changes something", c.Uid)
	}
}

func TestChapterExamples(t *testing.T) {
	x := built(t, by(0, dirAt(0, "", 0o1777)), by(1, fileAt(1, "mine")), by(2, fileAt(1, "other")), by(1, dirAt(1, "d", 0o755)))
	wantDone(t, x, ann, unlink("mine"), loses(1, "mine"), gone(2))
	wantFault(t, x, ann, unlink("other"), api.EPERM)
	wantFault(t, x, ann, rename("d", "d/e"), api.EINVAL)
}

// P15.1

// numbers are those of nodes, and some that are none.
var numbers = func() []int {
	l := []int{math.MinInt, -65536, -24, -1, 1 << 32, 1<<32 + 1, math.MaxInt}
	for i := range api.CapMax + 3 {
		l = append(l, i)
	}
	return l
}()

// entriesOf is how many entries have a node.
func entriesOf(x *table.Table, id int) int {
	count := 0
	for i := 1; i <= api.CapMax; i++ {
		n, _ := x.Get(i)
		for _, e := range n.Ents {
			if e.Node == id {
				count++
			}
		}
	}
	return count
}

func TestFree(t *testing.T) {
	x := sample(t)
	loose(t, x, node.Node{Kind: api.File, Mode: 0o600, Uid: 1, Data: []byte("open")})
	loose(t, x, node.Node{Kind: api.Link, Mode: 511, Target: "d"})
	freed := 0
	for _, i := range numbers {
		for _, open := range [][]int{nil, {}, {i}, {i, i}, {-1, i, 0}, {i + 1}, {i - 1, i + 1}, {23}, {24}, {24, 23}, numbers} {
			did, before := x.Clone(), slices.Clone(open)
			_, is := x.Get(i)
			want := is && i != 1 && entriesOf(x, i) == 0 && !slices.Contains(open, i)
			if got := Free(did, i, open...); got != want {
				t.Errorf("Free of %d, open %v: %v", i, open, got)
			}
			wanted := x.Clone()
			if want {
				gone(i)(t, wanted)
				freed++
			}
			if !did.Same(wanted) || !slices.Equal(open, before) {
				t.Errorf("Free of %d, open %v: %v", i, open, build.Tell(did))
			}
			// What is gone can't be freed again.
			if want && Free(did, i) {
				t.Errorf("%d is freed twice", i)
			}
		}
	}
	if freed == 0 {
		t.Error("nothing was freed")
	}
}

func TestFreeGivesItsNumber(t *testing.T) {
	x := built(t, dirAt(0, "", 0o755), fileAt(1, "f"))
	id := loose(t, x, node.Node{Kind: api.File})
	if Free(x, id, id) || x.Used() != 3 || !Free(x, id) || x.Used() != 2 || !x.Right() {
		t.Error("a node that isn't open isn't freed alone")
	}
	if again := loose(t, x, node.Node{Kind: api.File}); again != id {
		t.Error(again)
	}
}

func TestNilAndEmptyTables(t *testing.T) {
	for _, i := range numbers {
		for _, x := range []*table.Table{nil, table.New(9)} {
			if Free(x, i) || Free(x, i, i) {
				t.Errorf("%d is freed", i)
			}
			if !Below(x, i, i) || !Below(x, i, 0) || Below(x, i, 1) != (i == 1) || i != 0 && Below(x, 0, i) {
				t.Errorf("Below of %d", i)
			}
		}
	}
	noRoot := sample(t)
	noRoot.Drop(1)
	for _, x := range []*table.Table{nil, table.New(9), noRoot} {
		for path, want := range map[string]api.Errno{
			"": api.ENOENT, "/": api.ENOENT, "d": api.ENOENT, "d/f": api.ENOENT, "..": api.ENOENT,
			strings.Repeat("n", 13): api.ENOENT, strings.Repeat("/", 65): api.ENAMETOOLONG, "\x00": api.EINVAL,
		} {
			for _, c := range everyone {
				for _, do := range []call{unlink(path), unlink(path, 3), rmdir(path), rename(path, "x"), rename(path, "")} {
					wantFault(t, x, c, do, want)
				}
			}
		}
	}
}

// wayTo is the numbers from node 1 down to a directory, found from above; nothing: it isn't come to.
func wayTo(x *table.Table, from, dir int) []int {
	if from == dir {
		return []int{dir}
	}
	n, _ := x.Get(from)
	for _, e := range n.Ents {
		if below, _ := x.Get(e.Node); below.Kind != api.Dir {
			continue
		}
		if way := wayTo(x, e.Node, dir); way != nil {
			return append([]int{from}, way...)
		}
	}
	return nil
}

// chain is a table of as many directories as may be, each in the one ahead.
func chain(t *testing.T, mode int) *table.Table {
	t.Helper()
	l := []build.Raw{dirAt(0, "", mode)}
	for i := 1; i < api.CapMax; i++ {
		l = append(l, dirAt(i, "d", mode))
	}
	return built(t, l...)
}

func TestBelow(t *testing.T) {
	for _, x := range []*table.Table{sample(t), chain(t, 0o755), built(t, dirAt(0, "", 0o755))} {
		for _, i := range numbers {
			way := wayTo(x, 1, i)
			if n, _ := x.Get(i); n.Kind == api.File || n.Kind == api.Link {
				way = append(wayTo(x, 1, x.Parent(i)), i)
			}
			for _, dir := range numbers {
				want := i == dir || dir == 0 || slices.Contains(way, dir)
				if got := Below(x, i, dir); got != want {
					t.Errorf("Below of %d and %d: %v", i, dir, got)
				}
			}
		}
	}
}

// Of a file with some entries, just the first of its directories counts.
func TestBelowOfMoreEntries(t *testing.T) {
	x := built(t, dirAt(0, "", 0o755), dirAt(1, "a", 0o755), dirAt(1, "b", 0o755), fileAt(3, "f"), againAt(2, "f", 4))
	if !Below(x, 4, 2) || Below(x, 4, 3) || !Below(x, 4, 1) || !Below(x, 4, 0) || Below(x, 2, 4) {
		t.Error("the way up isn't that of Parent")
	}
	open := loose(t, x, node.Node{Kind: api.File})
	if Below(x, open, 1) || !Below(x, open, 0) || !Below(x, open, open) {
		t.Error("what no entry has is below a directory")
	}
}

func TestBelowEndsInARing(t *testing.T) {
	x := built(t, dirAt(0, "", 0o755), dirAt(1, "a", 0o755), dirAt(2, "b", 0o755))
	loses(1, "a")(t, x)
	gains(3, "c", 2)(t, x)
	if !Below(x, 2, 3) || !Below(x, 3, 2) || Below(x, 2, 1) || Below(x, 3, 7) {
		t.Error("of directories that have each other")
	}
	Free(x, 2)
	Rename(x, allRoot, "a", "b")
}

// P15.2

func TestUnlink(t *testing.T) {
	x := sample(t)
	for path, at := range map[string]struct {
		in   int
		name string
		id   int
	}{
		"shut/f": {8, "f", 9}, "/shut/f": {8, "f", 9}, "//d/..//shut/./f": {8, "f", 9}, "d/top/shut/f": {8, "f", 9},
		"d/full/in": {11, "in", 12}, "dir/full/in": {11, "in", 12}, "all/g": {19, "g", 21}, "tmp/ann": {13, "ann", 14},
	} {
		wantDone(t, x, ann, unlink(path), loses(at.in, at.name), gone(at.id))
		wantDone(t, x, allRoot, unlink(path, 1, 2, 3, -1, 0, 99), loses(at.in, at.name), gone(at.id))
		after := wantDone(t, x, ann, unlink(path, 7, at.id), loses(at.in, at.name))
		if after.Right() || !after.Right(at.id) || x.Right(at.id) != x.Right() {
			t.Errorf("%q: what is open isn't there any more", path)
		}
		if !Free(after, at.id) || !after.Right() {
			t.Errorf("%q: what was open can't be freed", path)
		}
	}
}

func TestUnlinkOfMoreEntries(t *testing.T) {
	x := sample(t)
	wantDone(t, x, ann, unlink("d/two"), loses(2, "two"))
	wantDone(t, x, ann, unlink("d/two", 3), loses(2, "two"))
	after := wantDone(t, x, ann, unlink("dir/f"), loses(2, "f"))
	wantDone(t, after, ann, unlink("d/two"), loses(2, "two"), gone(3))
	wantDone(t, after, ann, unlink("d/two", 3), loses(2, "two"))
}

func TestUnlinkFollowsNoLinkAtTheEnd(t *testing.T) {
	x := sample(t)
	for path, id := range map[string]int{"dir": 5, "self": 7} {
		wantDone(t, x, ann, unlink(path), loses(1, path), gone(id))
		wantDone(t, x, ann, unlink(path, id), loses(1, path))
	}
	wantDone(t, x, ann, unlink("d/dangles"), loses(2, "dangles"), gone(6))
	after := wantDone(t, x, ann, unlink("s"), loses(1, "s"))
	wantDone(t, after, ann, unlink("all/l"), loses(19, "l"), gone(4))
	wantDone(t, x, ann, unlink("d/top"), loses(2, "top"), gone(18))
	for path, want := range map[string]api.Errno{"dir/": api.EINVAL, "d/top/": api.EINVAL, "s/": api.ENOTDIR, "d/dangles/": api.ENOENT, "self/": api.ELOOP} {
		wantFault(t, x, ann, unlink(path), want)
		wantFault(t, x, ann, rmdir(path), want)
	}
}

func TestUnlinkOfDirs(t *testing.T) {
	x := sample(t)
	for _, path := range []string{"d", "/d", "d/e", "dir/e", "d/full", "shut", "tmp/anns", "all/q", "all"} {
		wantFault(t, x, ann, unlink(path), api.EISDIR)
		wantFault(t, x, allRoot, unlink(path, 2), api.EISDIR)
	}
}

func TestRmdir(t *testing.T) {
	x := sample(t)
	for path, at := range map[string]struct {
		in   int
		name string
		id   int
	}{
		"d/e": {2, "e", 10}, "/d/e": {2, "e", 10}, "dir//e": {2, "e", 10}, "d/e/../e": {2, "e", 10}, "d/top/d/e": {2, "e", 10},
		"all/q": {19, "q", 20}, "tmp/anns": {13, "anns", 16},
	} {
		after := wantDone(t, x, ann, rmdir(path), loses(at.in, at.name), gone(at.id))
		wantFault(t, after, ann, rmdir(path), api.ENOENT)
		if !after.Right() {
			t.Errorf("%q: no tree is left", path)
		}
	}
	for _, path := range []string{"d", "d/full", "shut", "tmp", "all", "dir/full"} {
		wantFault(t, x, allRoot, rmdir(path), api.ENOTEMPTY)
	}
	for _, path := range []string{"d/f", "s", "dir", "d/dangles", "self", "d/top", "tmp/ann", "all/l"} {
		wantFault(t, x, allRoot, rmdir(path), api.ENOTDIR)
	}
	// One that is emptied may be taken away.
	after := wantDone(t, x, ann, unlink("d/full/in"), loses(11, "in"), gone(12))
	wantDone(t, after, ann, rmdir("d/full"), loses(2, "full"), gone(11))
}

// What its own bits let plays no part.
func TestRmdirOfWhatIsShut(t *testing.T) {
	x := sample(t)
	for mode := range 4096 {
		withMode(t, x, 20, mode, mode%3)
		for _, c := range []api.Cred{allRoot, ann, bob, cat} {
			wantDone(t, x, c, rmdir("all/q"), loses(19, "q"), gone(20))
			wantDone(t, x, c, rename("all/q", "all/z"), loses(19, "q"), gains(19, "z", 20))
		}
	}
}

func TestErrorsOfPaths(t *testing.T) {
	x := sample(t)
	for path, want := range map[string]api.Errno{
		"": api.ENOENT, strings.Repeat("/", 65): api.ENAMETOOLONG, "\x00": api.EINVAL, "d/f\x00": api.EINVAL,
		strings.Repeat("n", 13): api.ENAMETOOLONG, "d/" + strings.Repeat("n", 13): api.ENAMETOOLONG, strings.Repeat("n", 12): api.ENOENT,
		"d/f/": api.ENOTDIR, "d/f/x": api.ENOTDIR, "s/x": api.ENOTDIR, "shut/f": api.EACCES, "shut/x": api.EACCES, "shut/": api.EACCES,
		"self/x": api.ELOOP, "x": api.ENOENT, "x/y": api.ENOENT, "x/": api.ENOENT, "d/x": api.ENOENT, "d/dangles/x": api.ENOENT, "tmp/x": api.ENOENT,
		// No entry is found ahead of what isn't let, and that ahead of what is there.
		"/": api.EINVAL, ".": api.EINVAL, "..": api.EINVAL, "d/": api.EINVAL, "d/.": api.EINVAL, "d/..": api.EINVAL, "d/full/..": api.EINVAL, "dir/": api.EINVAL, "all/": api.EINVAL,
		"d": api.EACCES, "d/f": api.EACCES, "d/e": api.EACCES, "d/full": api.EACCES, "s": api.EACCES, "self": api.EACCES, "d/dangles": api.EACCES, "dir/top": api.EACCES,
		"tmp/ann": api.EPERM, "tmp/anns": api.EPERM, "tmp/bob": api.EPERM, "tmp/bobs": api.EPERM, "tmp/roots": api.EPERM, "d/top/tmp/ann": api.EPERM,
	} {
		for _, c := range []api.Cred{cat, noOne} {
			for _, do := range []call{unlink(path), unlink(path, 3, 14), rmdir(path), rename(path, "all/x"), rename(path, "x"), rename(path, ""), rename(path, path)} {
				wantFault(t, x, c, do, want)
			}
		}
	}
}

// Who may write and search a directory may take its entries away, and have others there.
func TestWriteAndSearchAreNeeded(t *testing.T) {
	x := built(t, dirAt(0, "", 0o777), dirAt(1, "p", 0), dirAt(2, "e", 0), fileAt(2, "f"), fileAt(1, "g"), fileAt(2, "h"))
	for mode := range 512 {
		withMode(t, x, 2, mode, 1)
		for _, c := range everyone {
			if !cred.Can(c, 1, 3, mode, 3) {
				for _, do := range []call{unlink("p/f"), rmdir("p/e"), rename("p/f", "x"), rename("p/e", "x"), rename("g", "p/x"), rename("g", "p/f"), rename("p/f", "p/x"), rename("p/f", "p/f")} {
					wantFault(t, x, c, do, api.EACCES)
				}
				continue
			}
			wantDone(t, x, c, unlink("p/f"), loses(2, "f"), gone(4))
			wantDone(t, x, c, rmdir("p/e"), loses(2, "e"), gone(3))
			wantDone(t, x, c, rename("p/e", "x"), loses(2, "e"), gains(1, "x", 3))
			wantDone(t, x, c, rename("g", "p/x"), loses(1, "g"), gains(2, "x", 5))
			wantDone(t, x, c, rename("g", "p/f"), loses(1, "g"), loses(2, "f"), gains(2, "f", 5), gone(4))
			wantDone(t, x, c, rename("p/f", "p/h"), loses(2, "f"), loses(2, "h"), gains(2, "h", 4), gone(6))
		}
	}
}

// In a directory with Sticky just root, its owner, and a node's owner take an entry away, or its place.
func TestSticky(t *testing.T) {
	x := built(t, dirAt(0, "", 0o777), dirAt(1, "p", 0), dirAt(2, "e", 0), fileAt(2, "f"), fileAt(1, "g"), dirAt(1, "d", 0), linkAt(2, "l", "f"))
	for bits := range 8 {
		for dirUid := range 4 {
			withMode(t, x, 2, 0o777+bits*512, dirUid)
			for uid := range 4 {
				withMode(t, x, 3, 0o755, uid)
				withMode(t, x, 4, 0o644, uid)
				withMode(t, x, 7, 511, uid)
				for _, c := range everyone {
					if bits%2 == 1 && c.Uid != 0 && c.Uid != dirUid && c.Uid != uid {
						for _, do := range []call{unlink("p/f"), unlink("p/e"), unlink("p/l"), rmdir("p/e"), rmdir("p/f"), rename("p/f", "p/x"), rename("p/e", "x"), rename("p/f", "p/f"), rename("g", "p/f"), rename("d", "p/e"), rename("g", "p/e"), rename("g", "p/l")} {
							wantFault(t, x, c, do, api.EPERM)
						}
						// What isn't there is nobody's.
						wantDone(t, x, c, rename("g", "p/x"), loses(1, "g"), gains(2, "x", 5))
						continue
					}
					wantDone(t, x, c, unlink("p/f"), loses(2, "f"), gone(4))
					wantDone(t, x, c, unlink("p/l"), loses(2, "l"), gone(7))
					wantDone(t, x, c, rmdir("p/e"), loses(2, "e"), gone(3))
					wantDone(t, x, c, rename("p/e", "x"), loses(2, "e"), gains(1, "x", 3))
					wantDone(t, x, c, rename("d", "p/e"), loses(1, "d"), loses(2, "e"), gains(2, "e", 6), gone(3))
					wantDone(t, x, c, rename("g", "p/f"), loses(1, "g"), loses(2, "f"), gains(2, "f", 5), gone(4))
				}
			}
		}
	}
}

// P15.3

func TestRename(t *testing.T) {
	x := sample(t)
	wantDone(t, x, ann, rename("d/f", "x"), loses(2, "f"), gains(1, "x", 3))
	wantDone(t, x, ann, rename("/d/f", "//d/./a"), loses(2, "f"), gains(2, "a", 3))
	wantDone(t, x, ann, rename("d", "z"), loses(1, "d"), gains(1, "z", 2))
	wantDone(t, x, ann, rename("d", "all/q/d"), loses(1, "d"), gains(20, "d", 2))
	wantDone(t, x, ann, rename("d/full", "full"), loses(2, "full"), gains(1, "full", 11))
	wantDone(t, x, ann, rename("d/full", "dir/top/full"), loses(2, "full"), gains(1, "full", 11))
	wantDone(t, x, ann, rename("shut", "d/e/shut"), loses(1, "shut"), gains(10, "shut", 8))
	wantDone(t, x, ann, rename("d/e", "shut/"+strings.Repeat("n", 12)), loses(2, "e"), gains(8, strings.Repeat("n", 12), 10))
	wantDone(t, x, cat, rename("all/g", "tmp/g"), loses(19, "g"), gains(13, "g", 21))
	wantDone(t, x, cat, rename("all/q", "all/a"), loses(19, "q"), gains(19, "a", 20))
	wantDone(t, x, bob, rename("tmp/bobs", "all/q/bobs"), loses(13, "bobs"), gains(20, "bobs", 17))
	wantDone(t, x, bob, rename("tmp/bob", "all/q/..."), loses(13, "bob"), gains(20, "...", 15))
	// One more entry of a node stays where it is.
	wantDone(t, x, ann, rename("d/two", "d/three"), loses(2, "two"), gains(2, "three", 3))
	wantDone(t, x, ann, rename("s", "all/s", 4), loses(1, "s"), gains(19, "s", 4))
}

func TestRenameInPlaceOfAnother(t *testing.T) {
	x := sample(t)
	wantDone(t, x, ann, rename("d/f", "all/g"), loses(2, "f"), loses(19, "g"), gains(19, "g", 3), gone(21))
	wantDone(t, x, ann, rename("d/f", "all/g", 21), loses(2, "f"), loses(19, "g"), gains(19, "g", 3))
	wantDone(t, x, ann, rename("d/f", "all/g", 3, 2, -1), loses(2, "f"), loses(19, "g"), gains(19, "g", 3), gone(21))
	wantDone(t, x, ann, rename("all/g", "d/f"), loses(19, "g"), loses(2, "f"), gains(2, "f", 21))
	wantDone(t, x, ann, rename("all/g", "all/l"), loses(19, "g"), loses(19, "l"), gains(19, "l", 21))
	wantDone(t, x, ann, rename("all/g", "d/dangles"), loses(19, "g"), loses(2, "dangles"), gains(2, "dangles", 21), gone(6))
	wantDone(t, x, ann, rename("self", "dir"), loses(1, "self"), loses(1, "dir"), gains(1, "dir", 7), gone(5))
	wantDone(t, x, ann, rename("d/full", "d/e"), loses(2, "full"), loses(2, "e"), gains(2, "e", 11), gone(10))
	wantDone(t, x, ann, rename("d", "all/q"), loses(1, "d"), loses(19, "q"), gains(19, "q", 2), gone(20))
	wantDone(t, x, ann, rename("all/q", "d/e"), loses(19, "q"), loses(2, "e"), gains(2, "e", 20), gone(10))
	wantDone(t, x, allRoot, rename("tmp/anns", "tmp/bobs"), loses(13, "anns"), loses(13, "bobs"), gains(13, "bobs", 16), gone(17))
	after := wantDone(t, x, ann, rename("d/f", "all/g", 21), loses(2, "f"), loses(19, "g"), gains(19, "g", 3))
	if after.Right() || !after.Right(21) || string(get(t, after, 21).Data) != "hi" {
		t.Error("what is open isn't there any more")
	}
}

func TestRenameOntoTheSameNode(t *testing.T) {
	x := sample(t)
	for from, to := range map[string]string{
		"d": "d", "d/f": "d/f", "d/two": "d/f", "d/e": "dir/e", "s": "s", "self": "//self", "all/l": "s", "d/full": "d/e/../full", "tmp/ann": "tmp/ann",
	} {
		wantDone(t, x, ann, rename(from, to))
		wantDone(t, x, ann, rename(to, from))
		wantDone(t, x, allRoot, rename(from, to, 3, 4))
	}
	// Sticky is asked of from alone.
	y := built(t, dirAt(0, "", 0o777), by(1, dirAt(1, "p", 0o1777)), by(2, fileAt(2, "f")), againAt(1, "g", 3))
	wantDone(t, y, cat, rename("g", "p/f"))
	wantFault(t, y, cat, rename("p/f", "g"), api.EPERM)
	wantDone(t, y, ann, rename("p/f", "g"))
	// To write where to is is asked for ahead of it.
	withMode(t, y, 2, 0o555, 1)
	wantFault(t, y, cat, rename("g", "p/f"), api.EACCES)
	wantDone(t, y, allRoot, rename("g", "p/f"))
}

func TestRenameIntoItself(t *testing.T) {
	x := sample(t)
	for from, tos := range map[string][]string{
		"d":   {"d/x", "d/e/x", "d/full/x", "dir/x", "dir/full/x", "d/f", "d/e", "d/full", "d/full/in", "d/top/d/x", "d/two", "d/d"},
		"all": {"all/q", "all/q/x", "all/g", "all/all"},
		"d/e": {"d/e/x", "d/e/e", "dir/e/../e/x"},
	} {
		for _, to := range tos {
			wantFault(t, x, ann, rename(from, to), api.EINVAL)
			wantFault(t, x, allRoot, rename(from, to), api.EINVAL)
		}
	}
	// A link in it isn't followed at the end, and a file is no directory.
	wantFault(t, x, ann, rename("d", "d/top"), api.EINVAL)
	wantDone(t, x, ann, rename("dir", "dir/x"), loses(1, "dir"), gains(2, "x", 5))
	deep := chain(t, 0o755)
	for i := 1; i < api.CapMax; i++ {
		from := strings.Repeat("/d", i)
		for j := i; j < api.CapMax; j++ {
			wantFault(t, deep, ann, rename(from, strings.Repeat("/d", j)+"/x"), api.EINVAL)
		}
		wantDone(t, deep, ann, rename(from, from[2:]+"/x"), loses(i, "d"), gains(i, "x", i+1))
		wantDone(t, deep, ann, rename(from, "x"), loses(i, "d"), gains(1, "x", i+1))
	}
}

func TestRenameOntoWhatIsAbove(t *testing.T) {
	x := sample(t)
	wantFault(t, x, ann, rename("d/e", "d"), api.ENOTEMPTY)
	wantFault(t, x, ann, rename("d/f", "d"), api.EISDIR)
	wantFault(t, x, ann, rename("d/full/in", "d/full"), api.EISDIR)
	wantFault(t, x, ann, rename("d/full/in", "d"), api.EISDIR)
	wantFault(t, x, ann, rename("all/q", "all"), api.ENOTEMPTY)
}

func TestRenameOfOtherKinds(t *testing.T) {
	x := sample(t)
	for _, from := range []string{"d/f", "s", "self", "all/g", "d/dangles"} {
		for _, to := range []string{"d/e", "d/full", "shut", "all/q", "tmp/bobs", "all"} {
			wantFault(t, x, allRoot, rename(from, to), api.EISDIR)
		}
	}
	for _, from := range []string{"d/e", "d/full", "shut", "all/q"} {
		for _, to := range []string{"d/f", "s", "self", "all/g", "d/dangles", "dir", "d/top", "tmp/bob"} {
			wantFault(t, x, allRoot, rename(from, to), api.ENOTDIR)
		}
		for _, to := range []string{"d", "tmp", "all"} {
			wantFault(t, x, allRoot, rename(from, to), api.ENOTEMPTY)
		}
	}
	wantFault(t, x, ann, rename("d/e", "d/full"), api.ENOTEMPTY)
	wantFault(t, x, ann, rename("shut", "d/full"), api.ENOTEMPTY)
}

func TestErrorsOfTo(t *testing.T) {
	x := sample(t)
	for to, want := range map[string]api.Errno{
		"": api.ENOENT, strings.Repeat("/", 65): api.ENAMETOOLONG, "\x00": api.EINVAL, "d/x\x00": api.EINVAL,
		strings.Repeat("n", 13): api.ENAMETOOLONG, "d/f/": api.ENOTDIR, "d/f/x": api.ENOTDIR, "s/x": api.ENOTDIR,
		"shut/f": api.EACCES, "shut/x": api.EACCES, "self/x": api.ELOOP, "x/y": api.ENOENT, "x/": api.ENOENT, "d/dangles/x": api.ENOENT,
		"/": api.EINVAL, ".": api.EINVAL, "..": api.EINVAL, "d/": api.EINVAL, "d/..": api.EINVAL, "all/": api.EINVAL, "all/q/": api.EINVAL, "tmp/.": api.EINVAL,
		"x": api.EACCES, "d": api.EACCES, "d/f": api.EACCES, "d/x": api.EACCES, "d/e": api.EACCES, "s": api.EACCES, "tmp": api.EACCES,
		"tmp/ann": api.EPERM, "tmp/anns": api.EPERM, "tmp/bob": api.EPERM, "tmp/bobs": api.EPERM, "tmp/roots": api.EPERM,
	} {
		for _, c := range []api.Cred{cat, noOne} {
			for _, from := range []string{"all/g", "all/q", "all/l"} {
				if from == "all/l" && to == "s" {
					continue // Both lead to one node, but that isn't asked yet.
				}
				wantFault(t, x, c, rename(from, to), want)
				wantFault(t, x, c, rename(from, to, 14, 21), want)
			}
		}
	}
	wantFault(t, x, cat, rename("all/l", "s"), api.EACCES)
}

func TestOrderOfErrors(t *testing.T) {
	x := sample(t)
	// That of from goes ahead of all of to.
	for _, to := range []string{"", "\x00", "/", "d", "x", "tmp/bob", strings.Repeat("n", 13), "all/q", "d/full/x", "d/x"} {
		wantFault(t, x, cat, rename("all/x", to), api.ENOENT)
		wantFault(t, x, cat, rename("all/q/", to), api.EINVAL)
		wantFault(t, x, cat, rename("d", to), api.EACCES)
		wantFault(t, x, cat, rename("tmp/ann", to), api.EPERM)
	}
	// Into itself is told ahead of what is there, and behind what isn't let.
	withMode(t, x, 10, 0o555, 0)
	wantFault(t, x, ann, rename("d", "d/e/x"), api.EACCES)
	wantFault(t, x, ann, rename("d", "d/full/in"), api.EINVAL)
	withMode(t, x, 11, 0o1777, 0)
	withMode(t, x, 12, 0o644, 0)
	wantFault(t, x, ann, rename("d", "d/full/in"), api.EINVAL)
	// Sticky is told ahead of kinds.
	wantFault(t, x, ann, rename("all/g", "d/full/in"), api.EPERM)
	wantFault(t, x, ann, rename("all/q", "d/full/in"), api.EPERM)
	wantFault(t, x, ann, rename("all/g", "tmp/bobs"), api.EPERM)
	wantFault(t, x, ann, rename("all/q", "tmp/bob"), api.EPERM)
	wantFault(t, x, ann, rename("all/q", "tmp/ann"), api.ENOTDIR)
	// Kinds are told ahead of entries.
	wantFault(t, x, ann, rename("all/g", "shut"), api.EISDIR)
}

// fill gives directory id as many entries as there may be, of node of.
func fill(t *testing.T, x *table.Table, id, of int) {
	t.Helper()
	for name := 'A'; len(get(t, x, id).Ents) < api.EntMax; name++ {
		gains(id, string(name), of)(t, x)
	}
}

func TestFullDirectories(t *testing.T) {
	x := built(t, dirAt(0, "", 0o777), dirAt(1, "p", 0o777), fileAt(2, "f"), fileAt(1, "g"), dirAt(1, "d", 0o777), dirAt(2, "e", 0o777), fileAt(1, "o"))
	fill(t, x, 2, 7)
	for _, c := range []api.Cred{allRoot, ann, cat} {
		for _, from := range []string{"g", "d", "o"} {
			wantFault(t, x, c, rename(from, "p/x"), api.ENOSPC)
		}
		// What is there makes room for what comes in its place.
		wantDone(t, x, c, rename("g", "p/f"), loses(1, "g"), loses(2, "f"), gains(2, "f", 4), gone(3))
		wantDone(t, x, c, rename("g", "p/A"), loses(1, "g"), loses(2, "A"), gains(2, "A", 4))
		wantDone(t, x, c, rename("d", "p/e"), loses(1, "d"), loses(2, "e"), gains(2, "e", 5), gone(6))
		// So does what goes, of the same directory.
		wantDone(t, x, c, rename("p/f", "p/x"), loses(2, "f"), gains(2, "x", 3))
		wantDone(t, x, c, rename("p/f", "p/A"), loses(2, "f"), loses(2, "A"), gains(2, "A", 3))
		wantDone(t, x, c, rename("p/f", "d/x"), loses(2, "f"), gains(5, "x", 3))
		wantDone(t, x, c, rename("p/A", "o"))
		wantDone(t, x, c, rename("p", "d/p"), loses(1, "p"), gains(5, "p", 2))
		wantFault(t, x, c, rename("p", "p/x"), api.EINVAL)
		wantFault(t, x, c, rename("d", "p/f"), api.ENOTDIR)
		wantFault(t, x, c, rename("g", "p/e"), api.EISDIR)
	}
	wantFault(t, x, noOne, rename("d", "p/e/../x"), api.ENOSPC)
	withMode(t, x, 2, 0o755, 1)
	wantFault(t, x, cat, rename("g", "p/x"), api.EACCES)
	after := wantDone(t, x, ann, unlink("p/B"), loses(2, "B"))
	after = wantDone(t, after, ann, rename("g", "p/x"), loses(1, "g"), gains(2, "x", 4))
	wantFault(t, after, ann, rename("d", "p/y"), api.ENOSPC)
}

// A table without a free number is as good as any other one.
func TestFullTables(t *testing.T) {
	l := []build.Raw{dirAt(0, "", 0o755), dirAt(1, "a", 0o755), dirAt(1, "b", 0o755), dirAt(1, "c", 0o755)}
	for i := range api.CapMax - len(l) {
		l = append(l, fileAt(2+i/7, string(rune('f'+i%7))))
	}
	x := built(t, l...)
	if x.Used() != api.CapMax {
		t.Fatal(x.Used())
	}
	wantDone(t, x, ann, rename("a/f", "x"), loses(2, "f"), gains(1, "x", 5))
	wantDone(t, x, ann, rename("a", "b/x"), loses(1, "a"), gains(3, "x", 2))
	wantDone(t, x, ann, rename("a/f", "b/f"), loses(2, "f"), loses(3, "f"), gains(3, "f", 5), gone(12))
	wantDone(t, x, ann, unlink("a/f"), loses(2, "f"), gone(5))
}

func TestWhoAsksAndWhatIsOpenAreNotChanged(t *testing.T) {
	x := sample(t)
	groups, open := []int{3, 4}, []int{21, 3, 12, 21}
	c := api.Cred{Uid: 1, Gid: 1, Groups: groups}
	for _, do := range []call{unlink("d/full/in", open...), rename("d/f", "all/g", open...), rmdir("d/e"), rename("d", "z", open...)} {
		if err := do(x, c); err != api.OK {
			t.Error(err)
		}
	}
	if !slices.Equal(groups, []int{3, 4}) || !slices.Equal(open, []int{21, 3, 12, 21}) {
		t.Error(groups, open)
	}
	if !x.Right(12, 21) || x.Right(12) || x.Right(21) {
		t.Errorf("%v", build.Tell(x))
	}
	// Nor is the list kept.
	open[0], open[2] = 0, 0
	if Free(x, 12, 12) || !Free(x, 12, open...) || !Free(x, 21) || !x.Right() {
		t.Error("a list that was handed in counts for another call")
	}
}

func TestApartFromClones(t *testing.T) {
	x := sample(t)
	clone, before := x.Clone(), x.Clone()
	for _, do := range []call{unlink("d/full/in"), rename("d/full", "d/e"), rename("d", "all/q"), rmdir("tmp/anns"), unlink("all/q/f", 3)} {
		if err := do(x, ann); err != api.OK {
			t.Error(err)
		}
	}
	if !clone.Same(before) || x.Same(before) || !x.Right() {
		t.Error("a call of one table changes another one")
	}
}

// Nobody owns what nobody's number is, and ids that are none are held against each other as they are.
func TestWhoMayNotBe(t *testing.T) {
	x := sample(t)
	for _, id := range []int{-1, -65536, 65536, 1<<32 + 1, 1 << 32, math.MinInt, math.MaxInt} {
		c := api.Cred{Uid: id, Gid: id}
		wantFault(t, x, c, unlink("tmp/ann"), api.EPERM)
		wantFault(t, x, c, unlink("d/f"), api.EACCES)
		wantFault(t, x, c, rename("all/g", "tmp/bob"), api.EPERM)
		wantDone(t, x, c, unlink("all/g"), loses(19, "g"), gone(21))
		wantDone(t, x, c, rename("all/g", "tmp/x"), loses(19, "g"), gains(13, "x", 21))
	}
}

// P15.4, and a second reading of the chapter, of many trees by chance of one seed.

const (
	unlinks = iota
	rmdirs
	renames
)

// asked is a call by chance.
type asked struct {
	kind     int
	path, to string
	open     []int
}

func (a asked) do(x *table.Table, c api.Cred) api.Errno {
	switch a.kind {
	case unlinks:
		return Unlink(x, c, a.path, a.open...)
	case rmdirs:
		return Rmdir(x, c, a.path)
	}
	return Rename(x, c, a.path, a.to, a.open...)
}

// rule is an error, and whether it is told, where no one ahead is.
type rule struct {
	holds bool
	err   api.Errno
}

func firstOf(rules ...rule) api.Errno {
	for _, r := range rules {
		if r.holds {
			return r.err
		}
	}
	return api.OK
}

// stuck tells whether Sticky keeps an entry from who asks.
func stuck(c api.Cred, dir, n node.Node) bool {
	return dir.Mode/512%2 == 1 && c.Uid != 0 && c.Uid != dir.Uid && c.Uid != n.Uid
}

func can(c api.Cred, n node.Node, want int) bool { return cred.Can(c, n.Uid, n.Gid, n.Mode, want) }

// second is the table behind a call, in new memory, and the error.
func (a asked) second(t *testing.T, x *table.Table, c api.Cred) (*table.Table, api.Errno) {
	t.Helper()
	after := x.Clone()
	f, err := resolve.Resolve(x, c, a.path, false)
	dir, _ := x.Get(f.Dir)
	n, _ := x.Get(f.Node)
	isDir := n.Kind == api.Dir
	fault := firstOf(
		rule{err != api.OK, err}, rule{f.Node == 0, api.ENOENT}, rule{f.Name == "", api.EINVAL},
		rule{!can(c, dir, 2), api.EACCES}, rule{stuck(c, dir, n), api.EPERM},
		rule{a.kind == unlinks && isDir, api.EISDIR},
		rule{a.kind == rmdirs && !isDir, api.ENOTDIR}, rule{a.kind == rmdirs && len(n.Ents) > 0, api.ENOTEMPTY},
	)
	if fault != api.OK {
		return after, fault
	}
	if a.kind != renames {
		loses(f.Dir, f.Name)(t, after)
		return freed(t, after, f.Node, a.open), api.OK
	}
	g, err := resolve.Resolve(x, c, a.to, false)
	toDir, _ := x.Get(g.Dir)
	to, _ := x.Get(g.Node)
	fault = firstOf(rule{err != api.OK, err}, rule{g.Name == "", api.EINVAL}, rule{!can(c, toDir, 2) || !can(c, toDir, 1), api.EACCES})
	if fault != api.OK || g.Node == f.Node {
		return after, fault
	}
	is := g.Node != 0
	fault = firstOf(
		rule{isDir && slices.Contains(wayTo(x, 1, g.Dir), f.Node), api.EINVAL},
		rule{is && stuck(c, toDir, to), api.EPERM},
		rule{is && isDir && to.Kind != api.Dir, api.ENOTDIR}, rule{is && !isDir && to.Kind == api.Dir, api.EISDIR},
		rule{is && len(to.Ents) > 0, api.ENOTEMPTY},
		rule{!is && g.Dir != f.Dir && len(toDir.Ents) == 8, api.ENOSPC},
	)
	if fault != api.OK {
		return after, fault
	}
	loses(f.Dir, f.Name)(t, after)
	if is {
		loses(g.Dir, g.Name)(t, after)
	}
	gains(g.Dir, g.Name, f.Node)(t, after)
	if is {
		freed(t, after, g.Node, a.open)
	}
	return after, api.OK
}

// freed is a table without a node, if no entry has it, and it isn't open.
func freed(t *testing.T, x *table.Table, id int, open []int) *table.Table {
	t.Helper()
	if entriesOf(x, id) == 0 && !slices.Contains(open, id) {
		gone(id)(t, x)
	}
	return x
}

func somePath(r *rand.Rand, most int) string {
	pieces := []string{"a", "b", "c", "d", "e", "f", "g", "h", "i", "a", "b", "c", "d", "a", "b", "c", "d", ".", "..", "", "nnnnnnnnnnnnn"}
	var names []string
	for range 1 + r.Intn(most) {
		names = append(names, pieces[r.Intn(len(pieces))])
	}
	path := strings.Join(names, "/")
	if path == "" || r.Intn(3) == 0 {
		path = "/" + path
	}
	return path
}

// pathOf is one that leads to a node of a table, for root.
func pathOf(r *rand.Rand, x *table.Table) string {
	path, at := "", 1
	for range 1 + r.Intn(5) {
		n, _ := x.Get(at)
		if len(n.Ents) == 0 {
			break
		}
		e := n.Ents[r.Intn(len(n.Ents))]
		path, at = path+"/"+e.Name, e.Node
	}
	if path == "" || r.Intn(3) == 0 {
		return somePath(r, 4)
	}
	switch r.Intn(6) {
	case 0:
		path += "/" + somePath(r, 1)
	case 1:
		// A name that is new there.
		path = path[:strings.LastIndex(path, "/")] + "/x" + string(rune('a'+r.Intn(3)))
	}
	return path
}

func someMode(r *rand.Rand) int {
	if r.Intn(4) > 0 {
		return 0o777 | r.Intn(8)<<9
	}
	return r.Intn(4096)
}

// someOpen is files and links that no entry has, and some others; now and then some that are none.
func someOpen(r *rand.Rand, x *table.Table) []int {
	var open []int
	for i := 1; i <= x.Room(); i++ {
		n, is := x.Get(i)
		if is && n.Kind != api.Dir && (entriesOf(x, i) == 0 || r.Intn(4) == 0) {
			open = append(open, i)
		}
	}
	if r.Intn(4) == 0 {
		open = append(open, -1, 0, 25, 1+r.Intn(3)*1000)
	}
	r.Shuffle(len(open), func(i, j int) { open[i], open[j] = open[j], open[i] })
	return open
}

// someTree is a table that is Right, of nodes that were told by chance.
func someTree(r *rand.Rand) *table.Table {
	told := []build.Raw{{Kind: api.Dir, Mode: 0o777 | r.Intn(8)<<9, Uid: r.Intn(3), Gid: r.Intn(5)}}
	room, wide := 2+r.Intn(api.CapMax), 1+r.Intn(api.CapMax)
	x, _, _ := build.Build(room, told)
	for range r.Intn(60) {
		raw := build.Raw{Kind: 1 + r.Intn(4), Mode: someMode(r), Uid: r.Intn(3), Gid: r.Intn(5), Parent: 1 + r.Intn(min(len(told), wide)), Name: string(rune('a' + r.Intn(9)))}
		switch raw.Kind {
		case api.File:
			raw.Data = make([]byte, r.Intn(49))
		case api.Link:
			raw.Mode, raw.Target = 511, somePath(r, 3)
		case build.Again:
			raw.Node = 1 + r.Intn(len(told))
		}
		more, _, err := build.Build(room, append(slices.Clone(told), raw))
		if err == api.OK {
			x, told = more, append(told, raw)
		}
	}
	if r.Intn(3) == 0 {
		fillSome(r, x)
	}
	return x
}

// fillSome gives all directories up to a number as many entries as there may be, of one file.
func fillSome(r *rand.Rand, x *table.Table) {
	file := slices.IndexFunc(numbers, func(i int) bool {
		n, _ := x.Get(i)
		return n.Kind == api.File
	})
	if file < 0 {
		return
	}
	for id := range 1 + r.Intn(x.Room()) {
		n, _ := x.Get(id)
		for name := 'A'; n.Kind == api.Dir && len(n.Ents) < api.EntMax; name++ {
			n, _ = node.With(n, string(name), numbers[file])
		}
		x.Put(id, n)
	}
}

// justEntries tells whether no node is new, whether those that stay have lost
// or won entries alone, and whether just one node at most is gone.
func justEntries(before, after *table.Table) bool {
	for i := 1; i <= api.CapMax; i++ {
		was, there := before.Get(i)
		is, now := after.Get(i)
		if now && !there {
			return false
		}
		was.Ents = is.Ents
		if now && !node.Same(was, is) {
			return false
		}
	}
	return before.Used()-after.Used() <= 1
}

func TestManyCalls(t *testing.T) {
	r := rand.New(rand.NewSource(15))
	cameUp := [3]map[api.Errno]int{{}, {}, {}}
	changed, moved, replaced := [3]int{}, 0, 0
	for range 6000 {
		x := someTree(r)
		for range 20 {
			c := everyone[r.Intn(len(everyone))]
			a := asked{kind: r.Intn(3), path: pathOf(r, x), to: pathOf(r, x), open: someOpen(r, x)}
			before := x.Clone()
			want, wantErr := a.second(t, x, c)
			err := a.do(x, c)
			if err != wantErr || !x.Same(want) {
				t.Fatalf("%v, by %v: %v, %v, want %v, %v, of %v", a, c, err, build.Tell(x), wantErr, build.Tell(want), build.Tell(before))
			}
			if !x.Right(a.open...) || !justEntries(before, x) || x.Room() != before.Room() || err != api.OK && !x.Same(before) {
				t.Fatalf("%v, by %v: %v of %v", a, c, build.Tell(x), build.Tell(before))
			}
			cameUp[a.kind][err]++
			if x.Same(before) {
				continue
			}
			changed[a.kind]++
			if a.kind == renames && x.Used() == before.Used() {
				moved++
			}
			if a.kind == renames && x.Used() < before.Used() {
				replaced++
			}
		}
	}
	always := []api.Errno{api.OK, api.EPERM, api.ENOENT, api.EACCES, api.ENOTDIR, api.EINVAL, api.ENAMETOOLONG, api.ELOOP}
	more := [3][]api.Errno{unlinks: {api.EISDIR}, rmdirs: {api.ENOTEMPTY}, renames: {api.EISDIR, api.ENOTEMPTY, api.ENOSPC}}
	for kind, counts := range cameUp {
		for _, err := range append(more[kind], always...) {
			if counts[err] < 50 {
				t.Errorf("%v came up %d times alone, of kind %d", err, counts[err], kind)
			}
		}
		if changed[kind] < 500 {
			t.Errorf("something was changed %d times alone, of kind %d", changed[kind], kind)
		}
	}
	if moved < 500 || replaced < 200 {
		t.Errorf("%d were moved alone, %d replaced", moved, replaced)
	}
}

// Tables that aren't Right are handed to nothing; calls end there, too.
func TestWrongTables(t *testing.T) {
	r := rand.New(rand.NewSource(16))
	for range 2000 {
		x := someTree(r)
		for range 1 + r.Intn(4) {
			n, is := x.Get(1 + r.Intn(x.Room()))
			if is && n.Kind == api.Dir && r.Intn(2) == 0 {
				more, err := node.With(n, "z", 1+r.Intn(api.CapMax+2))
				if err == api.OK {
					x.Put(1+r.Intn(x.Room()), more)
				}
			} else {
				x.Drop(1 + r.Intn(x.Room()))
			}
		}
		for range 10 {
			a := asked{kind: r.Intn(3), path: pathOf(r, x), to: pathOf(r, x), open: someOpen(r, x)}
			a.do(x, everyone[r.Intn(len(everyone))])
			i, dir := numbers[r.Intn(len(numbers))], numbers[r.Intn(len(numbers))]
			Below(x, i, dir)
			Free(x, i, a.open...)
		}
	}
}
