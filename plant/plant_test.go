package plant

import (
	"math"
	"math/rand"
	"slices"
	"strings"
	"testing"

	"gaoler/api"
	"gaoler/build"
	"gaoler/cred"
	"gaoler/node"
	"gaoler/resolve"
	"gaoler/table"
)

var (
	allRoot  = api.Cred{}
	ann      = api.Cred{Uid: 1, Gid: 1, Groups: []int{4}}
	bob      = api.Cred{Uid: 2, Gid: 2, Groups: []int{3}}
	cat      = api.Cred{Uid: 9, Gid: 9}
	noOne    = api.Cred{Uid: -1, Gid: -1, Groups: []int{-2}}
	everyone = []api.Cred{allRoot, ann, bob, cat, noOne}
)

// Nodes that are told are ann's, but links, which are root's; all of them are of group 3.

func dirAt(parent int, name string, mode int) build.Raw {
	return build.Raw{Kind: api.Dir, Mode: mode, Uid: 1, Gid: 3, Parent: parent, Name: name}
}

func fileAt(parent int, name string) build.Raw {
	return build.Raw{Kind: api.File, Mode: 0o644, Uid: 1, Gid: 3, Parent: parent, Name: name, Data: []byte("hi")}
}

func linkAt(parent int, name, target string) build.Raw {
	return build.Raw{Kind: api.Link, Mode: 511, Gid: 3, Parent: parent, Name: name, Target: target}
}

func built(t *testing.T, room int, l ...build.Raw) *table.Table {
	t.Helper()
	x, place, err := build.Build(room, l)
	if err != api.OK {
		t.Fatalf("what is told is wrong at %d: %v", place, err)
	}
	return x
}

// sample has nodes of each kind, links of each sort, and directories that are shut.
func sample(t *testing.T) *table.Table {
	t.Helper()
	return built(t, api.CapMax,
		dirAt(0, "", 0o755),         // 1
		dirAt(1, "d", 0o755),        // 2
		fileAt(2, "f"),              // 3
		linkAt(1, "s", "d/f"),       // 4
		linkAt(1, "dir", "d"),       // 5
		linkAt(1, "dangles", "d/x"), // 6
		linkAt(1, "self", "self"),   // 7
		dirAt(1, "shut", 0o700),     // 8
		fileAt(8, "f"),              // 9
		linkAt(2, "into", "/grp/y"), // 10
		linkAt(2, "top", "/"),       // 11
		dirAt(2, "empty", 0),        // 12
		dirAt(1, "grp", 0o2777),     // 13
	)
}

func get(t *testing.T, x *table.Table, id int) node.Node {
	t.Helper()
	n, is := x.Get(id)
	if !is {
		t.Fatalf("there is no node %d", id)
	}
	return n
}

// put makes node id as it is wanted, ahead of a call.
func put(t *testing.T, x *table.Table, id int, n node.Node) {
	t.Helper()
	if err := x.Put(id, n); err != api.OK {
		t.Fatalf("node %d can't be %v: %v", id, n, err)
	}
}

// call is one call of the package, whose other arguments are known; the number
// is that of the node that is made, as far as it is told.
type call func(x *table.Table, c api.Cred, path string) (int, api.Errno)

// untold is the number that Mkdir and Symlink don't tell.
const untold = -1

func mkdir(umask, mode int) call {
	return func(x *table.Table, c api.Cred, path string) (int, api.Errno) {
		return untold, Mkdir(x, c, umask, path, mode)
	}
}

func symlink(target string) call {
	return func(x *table.Table, c api.Cred, path string) (int, api.Errno) {
		return untold, Symlink(x, c, target, path)
	}
}

func create(umask, mode int) call {
	return func(x *table.Table, c api.Cred, path string) (int, api.Errno) {
		return Create(x, c, umask, path, mode, true)
	}
}

func createHere(umask, mode int) call {
	return func(x *table.Table, c api.Cred, path string) (int, api.Errno) {
		return Create(x, c, umask, path, mode, false)
	}
}

// calls are one of each sort.
var calls = []call{mkdir(0o022, 0o777), symlink("x"), createHere(0o022, 0o666), create(0o022, 0o666)}

func freeNumber(x *table.Table) int {
	for i := 1; i <= x.Room(); i++ {
		if _, is := x.Get(i); !is {
			return i
		}
	}
	return 0
}

// wantMade asks for a call that makes the node in a directory, with that name,
// in a table that it leaves as it was, and changes nothing else; it is the
// table behind the call.
func wantMade(t *testing.T, x *table.Table, do call, c api.Cred, path string, in int, name string, made node.Node) *table.Table {
	t.Helper()
	did, want := x.Clone(), x.Clone()
	id, err := want.Add(made)
	if err != api.OK || id != freeNumber(x) {
		t.Fatalf("%v can't be made: %v", made, err)
	}
	dir, err := node.With(get(t, x, in), name, id)
	if err != api.OK {
		t.Fatalf("%d can't have %q: %v", in, name, err)
	}
	put(t, want, in, dir)
	got, err := do(did, c, path)
	if err != api.OK || got != id && got != untold {
		t.Errorf("at %.80q, by %d: %d, %v, want %d", path, c.Uid, got, err, id)
	}
	if !did.Same(want) {
		t.Errorf("at %.80q, by %d: %v, want %v", path, c.Uid, build.Tell(did), build.Tell(want))
	}
	return did
}

func wantFault(t *testing.T, x *table.Table, do call, c api.Cred, path string, want api.Errno) {
	t.Helper()
	before := x.Clone()
	got, err := do(x, c, path)
	if err != want || got != 0 && got != untold {
		t.Errorf("at %.80q, by %d: %d, %v, want %v", path, c.Uid, got, err, want)
	}
	if !x.Same(before) {
		t.Errorf("at %.80q, by %d: a call that fails changes something", path, c.Uid)
	}
}

func wantOK(t *testing.T, err api.Errno) {
	t.Helper()
	if err != api.OK {
		t.Error(err)
	}
}

func dirOf(mode, uid, gid int) node.Node {
	return node.Node{Kind: api.Dir, Mode: mode, Uid: uid, Gid: gid}
}

func fileOf(mode, uid, gid int) node.Node {
	return node.Node{Kind: api.File, Mode: mode, Uid: uid, Gid: gid}
}

func linkOf(target string, uid, gid int) node.Node {
	return node.Node{Kind: api.Link, Mode: 511, Uid: uid, Gid: gid, Target: target}
}

func TestChapterExamples(t *testing.T) {
	x := built(t, 9, dirAt(0, "", 0o755), dirAt(1, "g", 0o2775))
	wantMade(t, x, mkdir(0o022, 0o777), ann, "x", 1, "x", dirOf(0o755, 1, 1))
	wantMade(t, x, mkdir(0o022, 0o777), ann, "g/x", 2, "x", dirOf(0o2755, 1, 3))
}

// P14.1

func TestMkdir(t *testing.T) {
	x := sample(t)
	for path, at := range map[string]struct {
		in   int
		name string
	}{
		"x": {1, "x"}, "/x": {1, "x"}, "//./../x": {1, "x"}, "d/x": {2, "x"}, "dir/x": {2, "x"}, "d/top/x": {1, "x"},
		"d/..//x": {1, "x"}, "...": {1, "..."}, "a b": {1, "a b"}, "shut/x": {8, "x"}, "shut/../d/zzzzzzzzzzzz": {2, "zzzzzzzzzzzz"},
	} {
		wantMade(t, x, mkdir(0o022, 0o777), ann, path, at.in, at.name, dirOf(0o755, 1, 1))
		wantMade(t, x, mkdir(0o027, 0o1777), ann, path, at.in, at.name, dirOf(0o1750, 1, 1))
		wantMade(t, x, mkdir(0, 0), allRoot, path, at.in, at.name, dirOf(0, 0, 0))
		for _, c := range []api.Cred{bob, cat, noOne} {
			wantFault(t, x, mkdir(0o022, 0o777), c, path, api.EACCES)
		}
	}
	for _, c := range []api.Cred{allRoot, ann, bob, cat} {
		wantMade(t, x, mkdir(0o022, 0o777), c, "grp/x", 13, "x", dirOf(0o2755, c.Uid, 3))
	}
}

// numbers are modes and umasks, of which some are none.
var numbers = []int{
	0, 1, 0o022, 0o027, 0o077, 0o111, 0o444, 0o700, 0o777, 0o1000, 0o1022, 0o1777, 0o2000, 0o2777, 0o4000, 0o4755, 0o7000, 0o7777,
	0o10000, 0o10022, 0o17777, 0o100644, 1<<32 + 0o644, -1, -4096, -4095, math.MaxInt, math.MinInt, math.MinInt + 0o1022,
}

// bit tells whether a number has a bit, as all of them rest by 4096.
func bit(number, power int) bool { return (number%4096+4096)%4096/power%2 == 1 }

// lets is those of the nine bits that the mode has, and the umask hasn't.
func lets(mode, umask int) int {
	all := 0
	for power := 1; power <= 256; power *= 2 {
		if bit(mode, power) && !bit(umask, power) {
			all += power
		}
	}
	return all
}

func modeOfDir(mode, umask, dir int) int {
	all := lets(mode, umask)
	if bit(mode, 512) {
		all += 512
	}
	if bit(dir, 1024) {
		all += 1024
	}
	return all
}

func TestModesOfDirs(t *testing.T) {
	x := built(t, 9, dirAt(0, "", 0o755), dirAt(1, "g", 0o2755))
	for _, umask := range numbers {
		for mode := range 4096 {
			wantMade(t, x, mkdir(umask, mode), ann, "x", 1, "x", dirOf(modeOfDir(mode, umask, 0), 1, 1))
			wantMade(t, x, mkdir(mode, umask), ann, "g/x", 2, "x", dirOf(modeOfDir(umask, mode, 0o2755), 1, 3))
		}
		for _, mode := range numbers {
			wantMade(t, x, mkdir(umask, mode), allRoot, "x", 1, "x", dirOf(modeOfDir(mode, umask, 0), 0, 0))
			wantMade(t, x, mkdir(umask, mode), allRoot, "g/x", 2, "x", dirOf(modeOfDir(mode, umask, 0o2000), 0, 3))
		}
	}
}

// What the directory has but Sgid, and the group that it hands on with that, plays no part.
func TestModesOfDirsAbove(t *testing.T) {
	x := built(t, 9, dirAt(0, "", 0o755), dirAt(1, "p", 0))
	for mode := range 4096 {
		put(t, x, 2, dirOf(mode, 7, 5))
		gid, sgid := 0, 0
		if bit(mode, 1024) {
			gid, sgid = 5, 0o2000
		}
		wantMade(t, x, mkdir(0, 0o751), allRoot, "p/x", 2, "x", dirOf(0o751+sgid, 0, gid))
		wantMade(t, x, create(0, 0o751), allRoot, "p/x", 2, "x", fileOf(0o751, 0, gid))
		wantMade(t, x, symlink("t"), allRoot, "p/x", 2, "x", linkOf("t", 0, gid))
	}
}

func TestMkdirFollowsNoLinkAtTheEnd(t *testing.T) {
	x := sample(t)
	for _, path := range []string{"dangles", "self", "s", "dir", "d/into", "d/top"} {
		wantFault(t, x, mkdir(0, 0o777), allRoot, path, api.EEXIST)
	}
	for path, want := range map[string]api.Errno{
		"dangles/": api.ENOENT, "dangles/x": api.ENOENT, "self/": api.ELOOP, "self/x": api.ELOOP, "x/": api.ENOENT, "x/.": api.ENOENT, "x/..": api.ENOENT,
	} {
		wantFault(t, x, mkdir(0, 0o777), allRoot, path, want)
	}
}

// P14.2

func TestSymlink(t *testing.T) {
	x := sample(t)
	for _, target := range []string{
		"t", "/", ".", "..", "d/f", "d/x/", "///", "nowhere/at/all", "self", "x", strings.Repeat("n", 13), strings.Repeat("n", 64), strings.Repeat("/", 64), "\x01\xff\n",
	} {
		wantMade(t, x, symlink(target), ann, "x", 1, "x", linkOf(target, 1, 1))
		wantMade(t, x, symlink(target), allRoot, "d/x", 2, "x", linkOf(target, 0, 0))
		wantMade(t, x, symlink(target), cat, "grp/x", 13, "x", linkOf(target, 9, 3))
		wantFault(t, x, symlink(target), cat, "x", api.EACCES)
		for _, path := range []string{"dangles", "self", "s", "d/f", "d", "/", "d/into"} {
			wantFault(t, x, symlink(target), allRoot, path, api.EEXIST)
		}
	}
}

func TestTargetsThatMayNotBe(t *testing.T) {
	x := sample(t)
	for target, want := range map[string]api.Errno{
		"": api.ENOENT, strings.Repeat("n", 65): api.ENAMETOOLONG, strings.Repeat("/", 65): api.ENAMETOOLONG, strings.Repeat("n", 4096): api.ENAMETOOLONG,
		strings.Repeat("\x00", 65): api.ENAMETOOLONG, strings.Repeat("n", 64) + "\x00": api.ENAMETOOLONG,
		"\x00": api.EINVAL, "t\x00": api.EINVAL, "\x00t": api.EINVAL, strings.Repeat("n", 63) + "\x00": api.EINVAL, strings.Repeat("\x00", 64): api.EINVAL,
	} {
		// The target is asked for ahead of the path.
		for _, path := range []string{"x", "d/x", "s", "/", "", "x/y", "\x00", strings.Repeat("n", 13), strings.Repeat("/", 65), "d/f/", "self/", "shut/x"} {
			for _, c := range everyone {
				wantFault(t, x, symlink(target), c, path, want)
				wantFault(t, nil, symlink(target), c, path, want)
			}
		}
	}
}

func TestLinksThatAreMadeLeadOn(t *testing.T) {
	x := sample(t)
	wantOK(t, Symlink(x, ann, "d/f", "l"))
	wantOK(t, Symlink(x, ann, "../l", "d/l"))
	if f, err := resolve.Resolve(x, cat, "d/l", true); f.Node != 3 || err != api.OK {
		t.Error(f, err)
	}
}

// P14.3

func TestCreate(t *testing.T) {
	x := sample(t)
	for _, do := range []func(umask, mode int) call{create, createHere} {
		for path, at := range map[string]struct {
			in   int
			name string
		}{
			"x": {1, "x"}, "//./../x": {1, "x"}, "d/x": {2, "x"}, "dir/x": {2, "x"}, "d/top/d/x": {2, "x"}, "shut/x": {8, "x"},
		} {
			wantMade(t, x, do(0o022, 0o666), ann, path, at.in, at.name, fileOf(0o644, 1, 1))
			wantMade(t, x, do(0o022, 0o4777), ann, path, at.in, at.name, fileOf(0o755, 1, 1))
			wantMade(t, x, do(0, 0), allRoot, path, at.in, at.name, fileOf(0, 0, 0))
			for _, c := range []api.Cred{bob, cat, noOne} {
				wantFault(t, x, do(0o022, 0o666), c, path, api.EACCES)
			}
		}
		for _, c := range []api.Cred{allRoot, ann, bob, cat} {
			wantMade(t, x, do(0o022, 0o777), c, "grp/x", 13, "x", fileOf(0o755, c.Uid, 3))
		}
	}
}

func TestModesOfFiles(t *testing.T) {
	x := built(t, 9, dirAt(0, "", 0o755), dirAt(1, "g", 0o2755))
	for _, umask := range numbers {
		for mode := range 4096 {
			wantMade(t, x, create(umask, mode), ann, "x", 1, "x", fileOf(lets(mode, umask), 1, 1))
			wantMade(t, x, createHere(mode, umask), ann, "g/x", 2, "x", fileOf(lets(umask, mode), 1, 3))
		}
		for _, mode := range numbers {
			wantMade(t, x, create(umask, mode), allRoot, "g/x", 2, "x", fileOf(lets(mode, umask), 0, 3))
		}
	}
}

func TestCreateAlongLinks(t *testing.T) {
	x := sample(t)
	wantMade(t, x, create(0, 0o640), ann, "dangles", 2, "x", fileOf(0o640, 1, 1))
	wantMade(t, x, create(0, 0o640), ann, "d/into", 13, "y", fileOf(0o640, 1, 3))
	wantMade(t, x, create(0, 0o640), cat, "d/into", 13, "y", fileOf(0o640, 9, 3))
	// A link is no leave: who asks must be let where it leads.
	wantFault(t, x, create(0, 0o640), cat, "dangles", api.EACCES)
	for path, want := range map[string]api.Errno{"self": api.ELOOP, "s": api.EEXIST, "dir": api.EEXIST, "d/top": api.EEXIST, "dangles/": api.ENOENT, "s/": api.ENOTDIR} {
		wantFault(t, x, create(0, 0o640), ann, path, want)
	}
	for _, path := range []string{"dangles", "d/into", "self", "s", "dir", "d/top"} {
		wantFault(t, x, createHere(0, 0o640), ann, path, api.EEXIST)
	}
	wantOK(t, Symlink(x, ann, "dangles", "two"))
	wantMade(t, x, create(0, 0o640), ann, "two", 2, "x", fileOf(0o640, 1, 1))
}

func TestNumbersOfFiles(t *testing.T) {
	x := built(t, 6, dirAt(0, "", 0o755))
	for i, name := range []string{"e", "a", "d", "c", "b"} {
		if id, err := Create(x, ann, 0, name, 0o600, false); id != i+2 || err != api.OK {
			t.Errorf("%d, %v, want %d", id, err, i+2)
		}
	}
	if names := node.Names(get(t, x, 1)); !slices.Equal(names, []string{"a", "b", "c", "d", "e"}) {
		t.Error(names)
	}
	// The least number that is free is taken again.
	less, _ := node.Without(get(t, x, 1), "d")
	put(t, x, 1, less)
	x.Drop(4)
	if id, err := Create(x, ann, 0, "z", 0o600, true); id != 4 || err != api.OK || !x.Right() {
		t.Error(id, err)
	}
	if id, err := Create(x, ann, 0, "y", 0o600, true); id != 0 || err != api.ENOSPC {
		t.Error(id, err)
	}
}

// All of them

func TestErrorsOfPaths(t *testing.T) {
	x := sample(t)
	for path, want := range map[string]api.Errno{
		"": api.ENOENT, strings.Repeat("/", 65): api.ENAMETOOLONG, strings.Repeat("\x00", 65): api.ENAMETOOLONG,
		"\x00": api.EINVAL, "d/x\x00": api.EINVAL, "x/\x00": api.EINVAL,
		strings.Repeat("n", 13): api.ENAMETOOLONG, "d/" + strings.Repeat("n", 13): api.ENAMETOOLONG,
		"d/f/": api.ENOTDIR, "d/f/x": api.ENOTDIR, "s/": api.ENOTDIR, "s/x": api.ENOTDIR,
		"shut/f": api.EACCES, "shut/x": api.EACCES, "shut/": api.EACCES, "d/empty/x": api.EACCES,
		"self/": api.ELOOP, "self/x": api.ELOOP, "x/y": api.ENOENT, "x/": api.ENOENT, "dangles/": api.ENOENT, "dangles/x": api.ENOENT,
		// What is there is told of ahead of what isn't let.
		"/": api.EEXIST, ".": api.EEXIST, "..": api.EEXIST, "d": api.EEXIST, "d/": api.EEXIST, "d/..": api.EEXIST, "d/f": api.EEXIST,
		"d/empty": api.EEXIST, "dir/f": api.EEXIST, "dir/": api.EEXIST, "d/top/": api.EEXIST, "shut": api.EEXIST,
		"x": api.EACCES, "/x": api.EACCES, "d/x": api.EACCES, "dir/x": api.EACCES, "...": api.EACCES,
	} {
		for _, do := range calls {
			wantFault(t, x, do, cat, path, want)
			wantFault(t, x, do, noOne, path, want)
		}
	}
}

func TestWriteIsNeeded(t *testing.T) {
	x := built(t, 9, dirAt(0, "", 0o755), dirAt(1, "p", 0))
	for mode := range 512 {
		put(t, x, 2, dirOf(mode, 1, 3))
		for _, c := range everyone {
			for _, do := range calls {
				if c.Uid == 0 || c.Uid > 0 && cred.Can(c, 1, 3, mode, 3) {
					if _, err := do(x.Clone(), c, "p/x"); err != api.OK {
						t.Fatalf("mode %o, by %d: %v", mode, c.Uid, err)
					}
					continue
				}
				want := api.EACCES
				if cred.Can(c, 1, 3, mode, 3) {
					want = api.EINVAL // Nobody has the number -1.
				}
				wantFault(t, x, do, c, "p/x", want)
			}
		}
	}
}

// full gives directory id as many entries as there may be, of node 3.
func full(t *testing.T, x *table.Table, id int) {
	t.Helper()
	n := get(t, x, id)
	for name := 'A'; len(n.Ents) < api.EntMax; name++ {
		n, _ = node.With(n, string(name), 3)
	}
	put(t, x, id, n)
}

func TestNoRoomInADirectory(t *testing.T) {
	x := built(t, api.CapMax, dirAt(0, "", 0o755), dirAt(1, "p", 0o755), fileAt(2, "f"), linkAt(1, "l", "p/x"), dirAt(1, "q", 0o777))
	full(t, x, 2)
	for _, do := range calls {
		for _, c := range []api.Cred{allRoot, ann} {
			wantFault(t, x, do, c, "p/x", api.ENOSPC)
			wantFault(t, x, do, c, "p/A", api.EEXIST)
		}
		wantFault(t, x, do, cat, "p/x", api.EACCES)
		wantFault(t, x, do, cat, "p/A", api.EEXIST)
	}
	wantFault(t, x, create(0, 0), ann, "l", api.ENOSPC)
	wantFault(t, x, create(0, 0), cat, "l", api.EACCES)
	// One less is room for one.
	less, _ := node.Without(get(t, x, 2), "D")
	put(t, x, 2, less)
	after := wantMade(t, x, mkdir(0, 0o755), ann, "p/x", 2, "x", dirOf(0o755, 1, 1))
	if !after.Right() {
		t.Error("the table isn't Right any more")
	}
	for _, do := range calls {
		wantFault(t, after, do, ann, "p/y", api.ENOSPC)
		// Another directory has room.
		if _, err := do(after.Clone(), ann, "q/y"); err != api.OK {
			t.Error(err)
		}
	}
}

func TestNoRoomInATable(t *testing.T) {
	for room := 1; room <= api.CapMax; room++ {
		x := built(t, room, dirAt(0, "", 0o777))
		at := ""
		for used := 1; used < room; used++ {
			if used%7 == 0 {
				wantOK(t, Mkdir(x, ann, 0, at+"d", 0o777))
				at += "d/"
				continue
			}
			if id, err := Create(x, ann, 0, at+string(rune('p'+used%7)), 0, false); id != used+1 || err != api.OK {
				t.Fatal(id, err)
			}
		}
		for _, do := range calls {
			for _, c := range everyone {
				wantFault(t, x, do, c, at+"z", api.ENOSPC)
				wantFault(t, x, do, c, "/", api.EEXIST)
				wantFault(t, x, do, c, "z/y", api.ENOENT)
			}
		}
		if x.Used() != room || !x.Right() {
			t.Errorf("%d of %d are used", x.Used(), room)
		}
	}
	// One that may not is told that ahead.
	x := built(t, 1, dirAt(0, "", 0o755))
	for _, do := range calls {
		wantFault(t, x, do, cat, "x", api.EACCES)
		wantFault(t, x, do, ann, "x", api.ENOSPC)
	}
}

func TestWhoMayNotBe(t *testing.T) {
	x := built(t, 4, dirAt(0, "", 0o777), dirAt(1, "g", 0o2777), fileAt(1, "f"))
	for _, id := range []int{-1, -65536, 65536, 65537, 1<<32 + 1, math.MinInt, math.MaxInt} {
		for _, do := range calls {
			for _, path := range []string{"x", "g/x"} {
				wantFault(t, x, do, api.Cred{Uid: id, Gid: 1}, path, api.EINVAL)
				wantFault(t, x, do, api.Cred{Uid: id, Gid: id}, path, api.EINVAL)
			}
			for _, uid := range []int{0, 1, 65535} {
				wantFault(t, x, do, api.Cred{Uid: uid, Gid: id}, "x", api.EINVAL)
			}
			wantFault(t, x, do, api.Cred{Uid: id, Gid: id}, "f", api.EEXIST)
		}
		// A group that may not be is not asked for, where that of the directory is taken.
		wantMade(t, x, mkdir(0, 0o755), api.Cred{Uid: 1, Gid: id}, "g/x", 2, "x", dirOf(0o2755, 1, 3))
		wantMade(t, x, symlink("t"), api.Cred{Uid: 1, Gid: id}, "g/x", 2, "x", linkOf("t", 1, 3))
		wantMade(t, x, create(0, 0o755), api.Cred{Uid: 0, Gid: id}, "g/x", 2, "x", fileOf(0o755, 0, 3))
	}
	last := api.Cred{Uid: 65535, Gid: 65535}
	wantMade(t, x, mkdir(0, 0o755), last, "x", 1, "x", dirOf(0o755, 65535, 65535))
	wantMade(t, x, create(0, 0o755), last, "x", 1, "x", fileOf(0o755, 65535, 65535))
	wantMade(t, x, symlink("t"), last, "x", 1, "x", linkOf("t", 65535, 65535))
	// No room is told ahead of it, and that a bit isn't set ahead of that.
	full := wantMade(t, x, mkdir(0, 0o755), last, "x", 1, "x", dirOf(0o755, 65535, 65535))
	for _, do := range calls {
		wantFault(t, full, do, noOne, "y", api.ENOSPC)
		wantFault(t, full, do, noOne, "x/y", api.EACCES)
		wantFault(t, full, do, noOne, "x", api.EEXIST)
	}
}

func TestTablesWithoutNodeOne(t *testing.T) {
	gone := sample(t)
	gone.Drop(1)
	for _, x := range []*table.Table{nil, table.New(9), gone} {
		for path, want := range map[string]api.Errno{
			"": api.ENOENT, "/": api.ENOENT, "x": api.ENOENT, "d/x": api.ENOENT, "s": api.ENOENT, "..": api.ENOENT,
			strings.Repeat("n", 13): api.ENOENT, strings.Repeat("/", 65): api.ENAMETOOLONG, "\x00": api.EINVAL,
		} {
			for _, do := range calls {
				wantFault(t, x, do, allRoot, path, want)
				wantFault(t, x, do, cat, path, want)
			}
		}
	}
}

func TestOpenNodesKeepTheirNumbers(t *testing.T) {
	x := built(t, 5, dirAt(0, "", 0o755), fileAt(1, "f"))
	open, err := x.Add(node.Node{Kind: api.File, Mode: 0o644, Uid: 1, Gid: 3, Data: []byte("open")})
	wantOK(t, err)
	x = wantMade(t, x, create(0, 0o600), ann, "x", 1, "x", fileOf(0o600, 1, 1))
	x = wantMade(t, x, mkdir(0, 0o700), ann, "y", 1, "y", dirOf(0o700, 1, 1))
	for _, do := range calls {
		// It counts for the room, too.
		wantFault(t, x, do, ann, "z", api.ENOSPC)
	}
	if n := get(t, x, open); string(n.Data) != "open" || x.Links(open) != 0 || !x.Right(open) || x.Right() {
		t.Error(n)
	}
}

func TestWhatIsMadeIsThere(t *testing.T) {
	x := built(t, 9, dirAt(0, "", 0o1777))
	wantOK(t, Mkdir(x, ann, 0o022, "a", 0o777))
	wantOK(t, Mkdir(x, ann, 0o022, "a/b", 0o777))
	wantOK(t, Symlink(x, bob, "/a/b", "l"))
	if id, err := Create(x, ann, 0o022, "l/f", 0o666, false); id != 5 || err != api.OK || x.Parent(5) != 3 {
		t.Error(id, err)
	}
	for _, do := range calls {
		wantFault(t, x, do, ann, "a/b/f", api.EEXIST)
		wantFault(t, x, do, bob, "a/b/g", api.EACCES)
		wantFault(t, x, do, bob, "a/b/f/", api.ENOTDIR)
	}
	if !x.Right() || x.Used() != 5 {
		t.Errorf("%v", build.Tell(x))
	}
	// One shuts oneself out of what one makes.
	wantOK(t, Mkdir(x, ann, 0o777, "none", 0o777))
	for _, do := range calls {
		wantFault(t, x, do, ann, "none/x", api.EACCES)
	}
}

func TestSgidIsHandedDown(t *testing.T) {
	x := sample(t)
	wantOK(t, Mkdir(x, cat, 0, "grp/a", 0o777))
	wantOK(t, Mkdir(x, cat, 0, "grp/a/b", 0o777))
	id, err := Create(x, bob, 0, "grp/a/b/c", 0o2777, true)
	wantOK(t, err)
	if a, b, c := get(t, x, 14), get(t, x, 15), get(t, x, id); a.Mode != 0o2777 || a.Gid != 3 || b.Mode != 0o2777 || b.Gid != 3 || c.Mode != 0o777 || c.Gid != 3 || c.Uid != 2 {
		t.Error(a, b, c)
	}
}

func TestWhoAsksIsNotChanged(t *testing.T) {
	x := sample(t)
	groups := []int{3, 4}
	c := api.Cred{Uid: 1, Gid: 1, Groups: groups}
	wantOK(t, Mkdir(x, c, 0, "a", 0o755))
	wantOK(t, Symlink(x, c, "t", "d/b"))
	if _, err := Create(x, c, 0, "grp/c", 0o755, true); err != api.OK || !slices.Equal(groups, []int{3, 4}) {
		t.Error(groups, err)
	}
	// Nor kept.
	before := x.Clone()
	groups[0], groups[1] = 7, 8
	if !x.Same(before) {
		t.Error("who changes groups changes the table")
	}
}

func TestApartFromClones(t *testing.T) {
	x := sample(t)
	clone, before := x.Clone(), x.Clone()
	for i, do := range calls {
		if _, err := do(x, ann, "d/"+string(rune('p'+i))); err != api.OK {
			t.Error(err)
		}
	}
	if !clone.Same(before) || x.Used() != before.Used()+len(calls) {
		t.Error("a call of one table changes another one")
	}
}

// A second reading of the chapter, of many trees by chance of one seed.

// asked is a call by chance, that makes a node of a kind.
type asked struct {
	kind, umask, mode int
	follow            bool
	path, target      string
}

func (a asked) do(x *table.Table, c api.Cred) (int, api.Errno) {
	switch a.kind {
	case api.Dir:
		return untold, Mkdir(x, c, a.umask, a.path, a.mode)
	case api.Link:
		return untold, Symlink(x, c, a.target, a.path)
	}
	return Create(x, c, a.umask, a.path, a.mode, a.follow)
}

// node is what is made in a directory.
func (a asked) node(c api.Cred, dir node.Node) node.Node {
	n := node.Node{Kind: a.kind, Uid: c.Uid, Gid: c.Gid, Mode: lets(a.mode, a.umask)}
	switch a.kind {
	case api.Dir:
		n.Mode = modeOfDir(a.mode, a.umask, dir.Mode)
	case api.Link:
		n.Mode, n.Target = 511, a.target
	}
	if bit(dir.Mode, 1024) {
		n.Gid = dir.Gid
	}
	return n
}

// second is the table behind a call, in new memory, the number of what is made, and the error.
func (a asked) second(x *table.Table, c api.Cred) (*table.Table, int, api.Errno) {
	after := x.Clone()
	if a.kind == api.Link {
		if a.target == "" {
			return after, 0, api.ENOENT
		}
		if len(a.target) > 64 {
			return after, 0, api.ENAMETOOLONG
		}
		if strings.Contains(a.target, "\x00") {
			return after, 0, api.EINVAL
		}
	}
	f, err := resolve.Resolve(x, c, a.path, a.kind == api.File && a.follow)
	if err != api.OK {
		return after, 0, err
	}
	if f.Node > 0 {
		return after, 0, api.EEXIST
	}
	dir, _ := x.Get(f.Dir)
	if !cred.Can(c, dir.Uid, dir.Gid, dir.Mode, 2) || !cred.Can(c, dir.Uid, dir.Gid, dir.Mode, 1) {
		return after, 0, api.EACCES
	}
	id := freeNumber(x)
	if len(dir.Ents) == 8 || id == 0 {
		return after, 0, api.ENOSPC
	}
	n := a.node(c, dir)
	if n.Uid != n.Uid&65535 || n.Gid != n.Gid&65535 {
		return after, 0, api.EINVAL
	}
	after.Add(n)
	dir.Ents = append(dir.Ents, node.Ent{Name: f.Name, Node: id})
	slices.SortFunc(dir.Ents, func(a, b node.Ent) int { return strings.Compare(a.Name, b.Name) })
	after.Put(f.Dir, dir)
	return after, id, api.OK
}

func somePath(r *rand.Rand, most int) string {
	pieces := []string{"a", "b", "c", "d", "e", "f", "g", "h", "i", "a", "b", "c", "d", ".", "..", "", "nnnnnnnnnnnnn"}
	var names []string
	for range 1 + r.Intn(most) {
		names = append(names, pieces[r.Intn(len(pieces))])
	}
	path := strings.Join(names, "/")
	if path == "" || r.Intn(3) == 0 {
		path = "/" + path
	}
	return path
}

func someMode(r *rand.Rand) int {
	if r.Intn(3) > 0 {
		return 0o777 | r.Intn(8)<<9
	}
	return r.Intn(4096)
}

func someTarget(r *rand.Rand) string {
	switch r.Intn(30) {
	case 0:
		return ""
	case 1:
		return strings.Repeat("a", 64+r.Intn(3))
	case 2:
		return "a\x00"
	}
	return somePath(r, 3)
}

func someCall(r *rand.Rand) asked {
	return asked{
		kind: 1 + r.Intn(3), umask: r.Intn(2 * 4096), mode: someMode(r) + r.Intn(3)*4096 - 4096,
		follow: r.Intn(2) == 0, path: somePath(r, 4), target: someTarget(r),
	}
}

// someTree is a table that is Right, of nodes that were told by chance.
func someTree(r *rand.Rand) *table.Table {
	told := []build.Raw{{Kind: api.Dir, Mode: 0o777 | r.Intn(8)<<9, Uid: r.Intn(3), Gid: r.Intn(5)}}
	room := 2 + r.Intn(api.CapMax)
	x, _, _ := build.Build(room, told)
	for range r.Intn(40) {
		raw := build.Raw{Kind: 1 + r.Intn(4), Mode: someMode(r), Uid: r.Intn(3), Gid: r.Intn(5), Parent: 1 + r.Intn(len(told)), Name: string(rune('a' + r.Intn(9)))}
		switch raw.Kind {
		case api.File:
			raw.Data = make([]byte, r.Intn(49))
		case api.Link:
			raw.Mode, raw.Target = 511, somePath(r, 3)
		case build.Again:
			raw.Node = 1 + r.Intn(len(told))
		}
		more, _, err := build.Build(room, append(slices.Clone(told), raw))
		if err == api.OK {
			x, told = more, append(told, raw)
		}
	}
	return x
}

// P14.4

// ownWithoutSuid tells whether each node of a table that another one lacks is
// who asks', and has no Suid, and whether the other ones have just their entries more.
func ownWithoutSuid(before, after *table.Table, c api.Cred) bool {
	for i := 1; i <= api.CapMax; i++ {
		was, there := before.Get(i)
		is, now := after.Get(i)
		if there && now {
			was.Ents = is.Ents
			if !node.Same(was, is) {
				return false
			}
			continue
		}
		if there != now && (!now || is.Uid != c.Uid || bit(is.Mode, 2048)) {
			return false
		}
	}
	return true
}

func TestManyCalls(t *testing.T) {
	r := rand.New(rand.NewSource(14))
	cameUp := map[int]map[api.Errno]int{api.File: {}, api.Dir: {}, api.Link: {}}
	for range 4000 {
		x := someTree(r)
		for range 20 {
			a, c := someCall(r), everyone[r.Intn(len(everyone))]
			before := x.Clone()
			want, wantId, wantErr := a.second(x, c)
			id, err := a.do(x, c)
			if err != wantErr || id != wantId && id != untold || !x.Same(want) {
				t.Fatalf("%v, by %v: %d, %v, %v, want %d, %v, %v, of %v", a, c, id, err, build.Tell(x), wantId, wantErr, build.Tell(want), build.Tell(before))
			}
			if !ownWithoutSuid(before, x, c) || !x.Right() || x.Room() != before.Room() || err != api.OK && !x.Same(before) {
				t.Fatalf("%v, by %v: %v of %v", a, c, build.Tell(x), build.Tell(before))
			}
			cameUp[a.kind][err]++
		}
	}
	for kind, counts := range cameUp {
		for _, err := range []api.Errno{api.OK, api.ENOENT, api.EACCES, api.EEXIST, api.ENOTDIR, api.EINVAL, api.ENOSPC, api.ENAMETOOLONG, api.ELOOP} {
			if counts[err] < 50 {
				t.Errorf("%v came up %d times alone, of kind %d", err, counts[err], kind)
			}
		}
	}
}

func TestWhatIsMadeHasNoSuid(t *testing.T) {
	x := built(t, 9, dirAt(0, "", 0o7777))
	for mode := range 4096 {
		for _, umask := range []int{0, 0o022, 0o7777} {
			for _, do := range []call{mkdir(umask, mode), create(umask, mode), createHere(umask, mode)} {
				did := x.Clone()
				for _, c := range []api.Cred{allRoot, bob} {
					if _, err := do(did, c, string(rune('a'+c.Uid))); err != api.OK {
						t.Fatal(err)
					}
				}
				for i, uid := range []int{0, 2} {
					if n := get(t, did, i+2); n.Mode >= 2048 || n.Uid != uid {
						t.Fatal(n)
					}
				}
			}
		}
	}
}
