package attr

import (
	"math"
	"math/rand"
	"slices"
	"strings"
	"testing"

	"gaoler/api"
	"gaoler/build"
	"gaoler/node"
	"gaoler/resolve"
	"gaoler/table"
)

var (
	allRoot  = api.Cred{}
	ann      = api.Cred{Uid: 1, Gid: 1, Groups: []int{4}}
	bob      = api.Cred{Uid: 2, Gid: 2, Groups: []int{3}}
	cat      = api.Cred{Uid: 9, Gid: 9}
	noOne    = api.Cred{Uid: -1, Gid: -1, Groups: []int{-2}}
	everyone = []api.Cred{allRoot, ann, bob, cat, noOne}
)

// Nodes that are told are ann's, but links, which are root's; all of them are of group 3.

func dirAt(parent int, name string, mode int) build.Raw {
	return build.Raw{Kind: api.Dir, Mode: mode, Uid: 1, Gid: 3, Parent: parent, Name: name}
}

func fileAt(parent int, name string, mode int) build.Raw {
	return build.Raw{Kind: api.File, Mode: mode, Uid: 1, Gid: 3, Parent: parent, Name: name, Data: []byte("hi")}
}

func linkAt(parent int, name, target string) build.Raw {
	return build.Raw{Kind: api.Link, Mode: 511, Gid: 3, Parent: parent, Name: name, Target: target}
}

func againAt(parent int, name string, id int) build.Raw {
	return build.Raw{Kind: build.Again, Parent: parent, Name: name, Node: id}
}

func built(t *testing.T, l ...build.Raw) *table.Table {
	t.Helper()
	x, place, err := build.Build(api.CapMax, l)
	if err != api.OK {
		t.Fatalf("what is told is wrong at %d: %v", place, err)
	}
	return x
}

// sample has nodes of each kind, links of each sort, and a directory that is shut.
func sample(t *testing.T) *table.Table {
	t.Helper()
	return built(t,
		dirAt(0, "", 0o755),         // 1
		dirAt(1, "d", 0o755),        // 2
		fileAt(2, "f", 0o644),       // 3
		linkAt(1, "s", "d/f"),       // 4
		linkAt(1, "dir", "d"),       // 5
		linkAt(1, "dangles", "d/x"), // 6
		linkAt(1, "self", "self"),   // 7
		dirAt(1, "shut", 0o700),     // 8
		fileAt(8, "f", 0o644),       // 9
		againAt(2, "g", 3),          // one more entry of 3
		linkAt(1, "into", "shut/f"), // 10
		linkAt(2, "chain", "../s"),  // 11
		linkAt(2, "top", "/"),       // 12
		dirAt(2, "empty", 0),        // 13
	)
}

func get(t *testing.T, x *table.Table, id int) node.Node {
	t.Helper()
	n, is := x.Get(id)
	if !is {
		t.Fatalf("there is no node %d", id)
	}
	return n
}

// put makes node id as it is wanted, ahead of a call.
func put(t *testing.T, x *table.Table, id int, n node.Node) {
	t.Helper()
	if err := x.Put(id, n); err != api.OK {
		t.Fatalf("node %d can't be %v: %v", id, n, err)
	}
}

// call is one call of the package, whose arguments are known.
type call func(x *table.Table, c api.Cred, path string) api.Errno

func chmod(mode int) call {
	return func(x *table.Table, c api.Cred, path string) api.Errno { return Chmod(x, c, path, mode) }
}

func chown(uid, gid int) call {
	return func(x *table.Table, c api.Cred, path string) api.Errno { return Chown(x, c, path, uid, gid, true) }
}

func lchown(uid, gid int) call {
	return func(x *table.Table, c api.Cred, path string) api.Errno { return Chown(x, c, path, uid, gid, false) }
}

// wantNode asks for a call that changes node id, of a table that it leaves as
// it was, to that mode, owner and group, and nothing else.
func wantNode(t *testing.T, x *table.Table, do call, c api.Cred, path string, id, mode, uid, gid int) {
	t.Helper()
	did, want := x.Clone(), x.Clone()
	n := get(t, x, id)
	n.Mode, n.Uid, n.Gid = mode, uid, gid
	put(t, want, id, n)
	if err := do(did, c, path); err != api.OK {
		t.Errorf("of %.80q, by %d: %v", path, c.Uid, err)
	}
	if !did.Same(want) {
		got := get(t, did, id)
		t.Errorf("of %.80q, by %d: mode %o, %d:%d, want %o, %d:%d, of %v", path, c.Uid, got.Mode, got.Uid, got.Gid, mode, uid, gid, build.Tell(did))
	}
}

func wantFault(t *testing.T, x *table.Table, do call, c api.Cred, path string, want api.Errno) {
	t.Helper()
	before := x.Clone()
	if got := do(x, c, path); got != want {
		t.Errorf("of %.80q, by %d: %v, want %v", path, c.Uid, got, want)
	}
	if !x.Same(before) {
		t.Errorf("of %.80q, by %d: a call that fails changes something", path, c.Uid)
	}
}

func wantOK(t *testing.T, err api.Errno) {
	t.Helper()
	if err != api.OK {
		t.Error(err)
	}
}

func TestChapterExamples(t *testing.T) {
	one := api.Cred{Uid: 1, Gid: 1}
	x := built(t, dirAt(0, "", 0o755), fileAt(1, "f", 0o755))
	wantNode(t, x, chown(-1, 1), one, "f", 2, 0o755, 1, 1)
	wantNode(t, x, chown(1, 1), one, "f", 2, 0o755, 1, 1)
	wantFault(t, x, chown(2, -1), one, "f", api.EPERM)
	wantFault(t, x, chown(2, 1), one, "f", api.EPERM)
	wantOK(t, Chown(x, one, "f", -1, 1, true))
	wantNode(t, x, chmod(0o7777), one, "f", 2, 0o7777, 1, 1)
}

// P13.1

func TestChmod(t *testing.T) {
	x := sample(t)
	for path, id := range map[string]int{
		"d/f": 3, "d/g": 3, "/d/f": 3, "dir/f": 3, "//d//./../d/g": 3, "d/top/d/f": 3, "s": 3, "/s": 3, "d/chain": 3,
		"d": 2, "d/": 2, "d/.": 2, "dir": 2, "dir/": 2, "/": 1, ".": 1, "..": 1, "d/..": 1, "d/top": 1, "d/empty": 13, "shut": 8,
	} {
		for _, c := range []api.Cred{allRoot, ann} {
			for _, mode := range []int{0, 1, 0o640, 0o777, 0o1777, 0o4755, 0o5755} {
				wantNode(t, x, chmod(mode), c, path, id, mode, 1, 3)
			}
		}
		for _, c := range []api.Cred{bob, cat, noOne} {
			wantFault(t, x, chmod(0o777), c, path, api.EPERM)
			// As it is, too.
			wantFault(t, x, chmod(get(t, x, id).Mode), c, path, api.EPERM)
		}
	}
	wantNode(t, x, chmod(0o600), ann, "into", 9, 0o600, 1, 3)
	wantNode(t, x, chmod(0o600), allRoot, "shut/f", 9, 0o600, 1, 3)
}

func TestChmodOfAllModes(t *testing.T) {
	member := api.Cred{Uid: 1, Gid: 3}
	further := api.Cred{Uid: 1, Gid: 1, Groups: []int{7, 3}}
	x := built(t, dirAt(0, "", 0o755), fileAt(1, "f", 0o2755), dirAt(1, "d", 0o2755))
	for mode := range 4096 {
		for _, c := range []api.Cred{allRoot, member, further, ann} {
			ofFile := mode
			if c.Uid == 1 && c.Gid == 1 && len(c.Groups) == 1 {
				ofFile = mode - mode&1024
			}
			wantNode(t, x, chmod(mode), c, "f", 2, ofFile, 1, 3)
			wantNode(t, x, chmod(mode), c, "d", 3, mode, 1, 3)
		}
	}
}

func TestChmodByGroups(t *testing.T) {
	x := built(t, dirAt(0, "", 0o755), fileAt(1, "f", 0))
	for gid, want := range map[int]int{0: 0o4755, 1: 0o6755, 2: 0o4755, 4: 0o6755, 9: 0o4755, api.IdMax: 0o4755} {
		put(t, x, 2, node.Node{Kind: api.File, Uid: 1, Gid: gid})
		wantNode(t, x, chmod(0o6755), ann, "f", 2, want, 1, gid)
		wantNode(t, x, chmod(0o6755), allRoot, "f", 2, 0o6755, 1, gid)
		// Whose group it is alone isn't asked of who isn't the owner.
		put(t, x, 2, node.Node{Kind: api.File, Uid: 2, Gid: gid})
		wantFault(t, x, chmod(0o755), ann, "f", api.EPERM)
	}
}

func TestChmodOfModesThatMayNotBe(t *testing.T) {
	x := sample(t)
	for _, mode := range []int{-1, -4096, 4096, 4097, 8191, 0o100644, 1<<32 + 0o644, math.MaxInt, math.MinInt} {
		for _, path := range []string{
			"d/f", "/", "s", "", "x", "dangles", "\x00", strings.Repeat("n", 13), strings.Repeat("/", 65), "d/f/", "shut/f", "self",
		} {
			for _, c := range everyone {
				wantFault(t, x, chmod(mode), c, path, api.EINVAL)
				wantFault(t, nil, chmod(mode), c, path, api.EINVAL)
			}
		}
	}
}

// P13.2

func TestChown(t *testing.T) {
	x := sample(t)
	for path, id := range map[string]int{
		"d/f": 3, "d/g": 3, "dir/f": 3, "//d//./../d/g": 3, "d": 2, "d/": 2, "dir/": 2, "/": 1, "..": 1, "d/top/": 1, "d/empty": 13,
	} {
		mode := get(t, x, id).Mode
		for _, do := range []func(uid, gid int) call{chown, lchown} {
			wantNode(t, x, do(7, 8), allRoot, path, id, mode, 7, 8)
			wantNode(t, x, do(0, 0), allRoot, path, id, mode, 0, 0)
			wantNode(t, x, do(7, -1), allRoot, path, id, mode, 7, 3)
			wantNode(t, x, do(-1, 8), allRoot, path, id, mode, 1, 8)
			wantNode(t, x, do(-1, 4), ann, path, id, mode, 1, 4)
			wantNode(t, x, do(1, 1), ann, path, id, mode, 1, 1)
			wantNode(t, x, do(1, 3), ann, path, id, mode, 1, 3)
			wantFault(t, x, do(2, -1), ann, path, api.EPERM)
			wantFault(t, x, do(0, -1), ann, path, api.EPERM)
			wantFault(t, x, do(-1, 2), ann, path, api.EPERM)
			wantFault(t, x, do(-1, 0), ann, path, api.EPERM)
			wantFault(t, x, do(2, 2), bob, path, api.EPERM)
			wantFault(t, x, do(-1, 3), bob, path, api.EPERM)
			wantFault(t, x, do(1, 3), cat, path, api.EPERM)
		}
	}
}

func TestChownOfLinks(t *testing.T) {
	x := sample(t)
	for path, ids := range map[string][2]int{
		"s": {3, 4}, "dir": {2, 5}, "d/chain": {3, 11}, "dir/chain": {3, 11}, "d/top": {1, 12}, "into": {9, 10},
	} {
		mode := get(t, x, ids[0]).Mode
		wantNode(t, x, chown(7, 8), allRoot, path, ids[0], mode, 7, 8)
		wantNode(t, x, lchown(7, 8), allRoot, path, ids[1], 511, 7, 8)
		wantNode(t, x, chown(-1, 4), ann, path, ids[0], mode, 1, 4)
		wantFault(t, x, lchown(-1, 4), ann, path, api.EPERM)
		wantFault(t, x, lchown(-1, -1), ann, path, api.EPERM)
	}
	for path, id := range map[string]int{"dangles": 6, "self": 7} {
		wantNode(t, x, lchown(7, -1), allRoot, path, id, 511, 7, 3)
		wantNode(t, x, lchown(-1, 8), allRoot, path, id, 511, 0, 8)
	}
	wantFault(t, x, chown(7, 8), allRoot, "dangles", api.ENOENT)
	wantFault(t, x, chown(7, 8), allRoot, "self", api.ELOOP)
	// Who has a link may hand it to a group of theirs; its mode stays.
	wantOK(t, Chown(x, allRoot, "s", 1, 3, false))
	wantNode(t, x, lchown(-1, 4), ann, "s", 4, 511, 1, 4)
	wantNode(t, x, lchown(-1, -1), ann, "s", 4, 511, 1, 3)
}

func TestChownOfAllModes(t *testing.T) {
	x := built(t, dirAt(0, "", 0o755), fileAt(1, "f", 0), dirAt(1, "d", 0))
	for mode := range 4096 {
		put(t, x, 2, node.Node{Kind: api.File, Mode: mode, Uid: 1, Gid: 3, Data: []byte("hi")})
		put(t, x, 3, node.Node{Kind: api.Dir, Mode: mode, Uid: 1, Gid: 3})
		left := mode - mode&2048
		if mode&0o010 != 0 {
			left -= mode & 1024
		}
		// An owner or a group that is told clears bits, though they are as they were.
		for _, to := range [][2]int{{-1, 4}, {1, 4}, {1, 3}, {1, -1}, {-1, 3}, {1, 1}, {math.MinInt, 3}} {
			uid, gid := 1, to[1]
			if gid < 0 {
				gid = 3
			}
			wantNode(t, x, chown(to[0], to[1]), ann, "f", 2, left, uid, gid)
			wantNode(t, x, chown(to[0], to[1]), ann, "d", 3, mode, uid, gid)
			wantNode(t, x, chown(to[0], to[1]), allRoot, "f", 2, mode, uid, gid)
			wantNode(t, x, chown(to[0], to[1]), allRoot, "d", 3, mode, uid, gid)
		}
		wantNode(t, x, chown(-1, -1), ann, "f", 2, mode, 1, 3)
		wantNode(t, x, chown(-1, -1), allRoot, "f", 2, mode, 1, 3)
	}
}

func TestChownOfNothing(t *testing.T) {
	x := sample(t)
	put(t, x, 3, node.Node{Kind: api.File, Mode: 0o6755, Uid: 1, Gid: 3})
	for _, id := range []int{-1, -2, -65536, math.MinInt} {
		for _, do := range []call{chown(id, -1), chown(-1, id), lchown(id, id)} {
			wantNode(t, x, do, allRoot, "d/f", 3, 0o6755, 1, 3)
			wantNode(t, x, do, ann, "d/f", 3, 0o6755, 1, 3)
			// Who may not may not do nothing either.
			wantFault(t, x, do, bob, "d/f", api.EPERM)
			wantFault(t, x, do, cat, "d/f", api.EPERM)
			wantFault(t, x, do, noOne, "d/f", api.EPERM)
			wantFault(t, x, do, allRoot, "d/x", api.ENOENT)
		}
	}
}

func TestChownToAllSorts(t *testing.T) {
	x := built(t, dirAt(0, "", 0o755), fileAt(1, "f", 0o6755))
	ids := []int{math.MinInt, -2, -1, 0, 1, 2, 3, 4, 255, 256, 65534, 65535, 65536, 65537, 1<<32 + 1, math.MaxInt}
	for _, uid := range ids {
		for _, gid := range ids {
			if uid > 65535 || gid > 65535 {
				for _, c := range everyone {
					wantFault(t, x, chown(uid, gid), c, "f", api.EINVAL)
					wantFault(t, x, lchown(uid, gid), c, "x", api.EINVAL)
				}
				continue
			}
			toUid, toGid, mode := 1, 3, 0o755
			if uid >= 0 {
				toUid = uid
			}
			if gid >= 0 {
				toGid = gid
			}
			if uid < 0 && gid < 0 {
				mode = 0o6755
			}
			wantNode(t, x, chown(uid, gid), allRoot, "f", 2, 0o6755, toUid, toGid)
			if toUid == 1 && (toGid == 3 || toGid == 1 || toGid == 4) {
				wantNode(t, x, chown(uid, gid), ann, "f", 2, mode, toUid, toGid)
			} else {
				wantFault(t, x, chown(uid, gid), ann, "f", api.EPERM)
			}
			for _, c := range []api.Cred{bob, cat, noOne} {
				wantFault(t, x, chown(uid, gid), c, "f", api.EPERM)
			}
		}
	}
}

func TestChownOfNumbersThatMayNotBe(t *testing.T) {
	x := sample(t)
	for _, to := range [][2]int{{65536, -1}, {-1, 65536}, {65536, 65536}, {0, 65536}, {65536, 0}, {math.MaxInt, math.MinInt}, {math.MinInt, math.MaxInt}} {
		for _, path := range []string{
			"d/f", "/", "s", "", "x", "dangles", "\x00", strings.Repeat("n", 13), strings.Repeat("/", 65), "d/f/", "shut/f", "self",
		} {
			for _, c := range everyone {
				wantFault(t, x, chown(to[0], to[1]), c, path, api.EINVAL)
				wantFault(t, x, lchown(to[0], to[1]), c, path, api.EINVAL)
				wantFault(t, nil, chown(to[0], to[1]), c, path, api.EINVAL)
				wantFault(t, nil, lchown(to[0], to[1]), c, path, api.EINVAL)
			}
		}
	}
}

// Both

var calls = []call{chmod(0o600), chmod(0o7777), chown(7, 8), chown(1, 3), chown(-1, -1), lchown(7, 8), lchown(-1, 4), lchown(-1, -1)}

func TestErrorsOfPaths(t *testing.T) {
	x := sample(t)
	for path, want := range map[string]api.Errno{
		"": api.ENOENT, strings.Repeat("/", 65): api.ENAMETOOLONG, strings.Repeat("\x00", 65): api.ENAMETOOLONG,
		"\x00": api.EINVAL, "d/f\x00": api.EINVAL, "x/\x00": api.EINVAL,
		strings.Repeat("n", 13): api.ENAMETOOLONG, "d/" + strings.Repeat("n", 13): api.ENAMETOOLONG,
		"d/f/": api.ENOTDIR, "d/f/x": api.ENOTDIR, "s/": api.ENOTDIR, "s/..": api.ENOTDIR,
		"shut/f": api.EACCES, "shut/x": api.EACCES, "shut/": api.EACCES, "shut/..": api.EACCES, "d/empty/x": api.EACCES,
		"self/": api.ELOOP, "self/x": api.ELOOP, "x/y": api.ENOENT, "dangles/": api.ENOENT,
		// Nobody is told that they may not where there is nothing.
		"x": api.ENOENT, "/x": api.ENOENT, "d/x": api.ENOENT, "dir/x": api.ENOENT, "...": api.ENOENT,
	} {
		for _, do := range calls {
			wantFault(t, x, do, cat, path, want)
			wantFault(t, x, do, noOne, path, want)
		}
	}
	for _, do := range calls[:5] {
		wantFault(t, x, do, cat, "dangles", api.ENOENT)
		wantFault(t, x, do, cat, "self", api.ELOOP)
		wantFault(t, x, do, cat, "into", api.EACCES)
	}
	for _, do := range calls[5:] {
		wantFault(t, x, do, cat, "dangles", api.EPERM)
		wantFault(t, x, do, cat, "self", api.EPERM)
		wantFault(t, x, do, cat, "into", api.EPERM)
	}
}

func TestTablesWithoutNodeOne(t *testing.T) {
	gone := sample(t)
	gone.Drop(1)
	for _, x := range []*table.Table{nil, table.New(9), gone} {
		for path, want := range map[string]api.Errno{
			"": api.ENOENT, "/": api.ENOENT, "d": api.ENOENT, "d/f": api.ENOENT, "s": api.ENOENT, "..": api.ENOENT,
			strings.Repeat("n", 13): api.ENOENT, strings.Repeat("/", 65): api.ENAMETOOLONG, "\x00": api.EINVAL,
		} {
			for _, do := range calls {
				wantFault(t, x, do, allRoot, path, want)
				wantFault(t, x, do, cat, path, want)
			}
		}
	}
}

func TestNothingOfTheNodeIsNeeded(t *testing.T) {
	x := built(t, dirAt(0, "", 0o711), dirAt(1, "d", 0), fileAt(1, "f", 0), linkAt(1, "l", "f"))
	for path, id := range map[string]int{"d": 2, "f": 3, "l": 3} {
		for _, c := range []api.Cred{allRoot, ann} {
			wantNode(t, x, chmod(0o777), c, path, id, 0o777, 1, 3)
			wantNode(t, x, chown(1, 4), c, path, id, 0, 1, 4)
		}
	}
	// A directory needs to be searched, for what is below it.
	wantFault(t, x, chmod(0o777), ann, "d/", api.EACCES)
	wantFault(t, x, chown(1, 4), ann, "d/.", api.EACCES)
	wantNode(t, x, chmod(0o777), allRoot, "d/", 2, 0o777, 1, 3)
	// What others let doesn't make one the owner.
	put(t, x, 3, node.Node{Kind: api.File, Mode: 0o777, Uid: 1, Gid: 2})
	wantFault(t, x, chmod(0o777), bob, "f", api.EPERM)
	wantFault(t, x, chown(-1, 3), bob, "f", api.EPERM)
}

func TestChangesStay(t *testing.T) {
	x := sample(t)
	wantOK(t, Chmod(x, ann, "d/g", 0o4711))
	wantOK(t, Chown(x, ann, "s", -1, 4, true))
	if n := get(t, x, 3); n.Mode != 0o711 || n.Uid != 1 || n.Gid != 4 || string(n.Data) != "hi" {
		t.Error(n)
	}
	// Of group 4 she is, so that Sgid isn't cleared any more.
	wantOK(t, Chmod(x, ann, "d/f", 0o2711))
	wantOK(t, Chown(x, allRoot, "d/f", 2, -1, true))
	if n := get(t, x, 3); n.Mode != 0o2711 || n.Uid != 2 || n.Gid != 4 {
		t.Error(n)
	}
	if err := Chmod(x, ann, "d/f", 0o644); err != api.EPERM {
		t.Errorf("whose it was may change it: %v", err)
	}
	wantOK(t, Chmod(x, ann, "d", 0o600))
	if err := Chmod(x, ann, "d/f", 0o644); err != api.EACCES {
		t.Errorf("what is shut is come to: %v", err)
	}
	wantOK(t, Chmod(x, ann, "d", 0o755))
	wantOK(t, Chmod(x, bob, "d/f", 0o644))
	if n := get(t, x, 3); n.Mode != 0o644 || !x.Right() {
		t.Error(n)
	}
}

func TestOpenNodesAreNotComeTo(t *testing.T) {
	x := built(t, dirAt(0, "", 0o755), fileAt(1, "f", 0o644))
	open, err := x.Add(node.Node{Kind: api.File, Mode: 0o644, Uid: 1, Gid: 3})
	wantOK(t, err)
	wantNode(t, x, chmod(0o600), ann, "f", 2, 0o600, 1, 3)
	wantNode(t, x, chown(-1, 4), ann, "f", 2, 0o644, 1, 4)
	wantFault(t, x, chmod(0o600), allRoot, "g", api.ENOENT)
	if !x.Right(open) {
		t.Error("the table isn't Right any more")
	}
}

func TestWhoAsksIsNotChanged(t *testing.T) {
	x := sample(t)
	groups := []int{3, 4}
	c := api.Cred{Uid: 1, Gid: 1, Groups: groups}
	wantOK(t, Chmod(x, c, "d/f", 0o2755))
	wantOK(t, Chown(x, c, "d/f", 1, 4, true))
	if !slices.Equal(groups, []int{3, 4}) {
		t.Error(groups)
	}
	// Nor kept.
	before := x.Clone()
	groups[0], groups[1] = 7, 8
	if !x.Same(before) {
		t.Error("who changes groups changes the table")
	}
}

func TestApartFromClones(t *testing.T) {
	x := sample(t)
	clone, before := x.Clone(), x.Clone()
	wantOK(t, Chmod(x, ann, "d/f", 0o600))
	wantOK(t, Chown(x, allRoot, "d", 7, 8, true))
	if !clone.Same(before) || x.Same(before) {
		t.Error("a call of one table changes another one")
	}
}

// A second reading of the chapter, of many trees by chance of one seed.

func isMember(c api.Cred, gid int) bool {
	for _, g := range c.Groups {
		if g == gid {
			return true
		}
	}
	return gid == c.Gid
}

func secondChmod(n node.Node, c api.Cred, mode int) (node.Node, api.Errno) {
	if c.Uid != 0 && c.Uid != n.Uid {
		return n, api.EPERM
	}
	n.Mode = mode
	if c.Uid != 0 && n.Kind == 1 && !isMember(c, n.Gid) && mode/1024%2 == 1 {
		n.Mode -= 1024
	}
	return n, api.OK
}

func secondChown(n node.Node, c api.Cred, uid, gid int) (node.Node, api.Errno) {
	mayUid := uid < 0 || uid == n.Uid
	mayGid := gid < 0 || gid == n.Gid || isMember(c, gid)
	if c.Uid != 0 && (c.Uid != n.Uid || !mayUid || !mayGid) {
		return n, api.EPERM
	}
	if uid >= 0 {
		n.Uid = uid
	}
	if gid >= 0 {
		n.Gid = gid
	}
	if c.Uid != 0 && n.Kind == 1 && (uid >= 0 || gid >= 0) {
		if n.Mode/2048%2 == 1 {
			n.Mode -= 2048
		}
		if n.Mode/1024%2 == 1 && n.Mode/8%2 == 1 {
			n.Mode -= 1024
		}
	}
	return n, api.OK
}

// asked is a call by chance: a Chmod, or a Chown.
type asked struct {
	own, follow    bool
	mode, uid, gid int
	path           string
}

func (a asked) do(x *table.Table, c api.Cred) api.Errno {
	if a.own {
		return Chown(x, c, a.path, a.uid, a.gid, a.follow)
	}
	return Chmod(x, c, a.path, a.mode)
}

// second is the table behind a call, in new memory, and its error.
func (a asked) second(x *table.Table, c api.Cred) (*table.Table, api.Errno) {
	after := x.Clone()
	if a.own && max(a.uid, a.gid) > 65535 || !a.own && a.mode != a.mode&4095 {
		return after, api.EINVAL
	}
	f, err := resolve.Resolve(x, c, a.path, a.follow || !a.own)
	if err != api.OK {
		return after, err
	}
	n, is := x.Get(f.Node)
	if !is {
		return after, api.ENOENT
	}
	if a.own {
		n, err = secondChown(n, c, a.uid, a.gid)
	} else {
		n, err = secondChmod(n, c, a.mode)
	}
	if err == api.OK {
		after.Put(f.Node, n)
	}
	return after, err
}

func somePath(r *rand.Rand, most int) string {
	pieces := []string{"a", "b", "c", "a", "b", "c", "d", ".", "..", "", "nnnnnnnnnnnnn"}
	var names []string
	for range 1 + r.Intn(most) {
		names = append(names, pieces[r.Intn(len(pieces))])
	}
	path := strings.Join(names, "/")
	if path == "" || r.Intn(3) == 0 {
		path = "/" + path
	}
	return path
}

func someMode(r *rand.Rand) int {
	if r.Intn(3) > 0 {
		return 0o755 | r.Intn(8)<<9
	}
	return r.Intn(4096)
}

func someId(r *rand.Rand) int {
	if r.Intn(40) == 0 {
		return 65535 + r.Intn(2)
	}
	return r.Intn(6) - 1
}

func someCall(r *rand.Rand) asked {
	mode := someMode(r)
	if r.Intn(40) == 0 {
		mode = r.Intn(3*4096) - 4096
	}
	return asked{
		own: r.Intn(2) == 0, follow: r.Intn(2) == 0,
		mode: mode, uid: someId(r), gid: someId(r), path: somePath(r, 4),
	}
}

// someTree is a table that is Right, of nodes that were told by chance.
func someTree(r *rand.Rand) *table.Table {
	told := []build.Raw{{Kind: api.Dir, Mode: 0o755, Uid: r.Intn(3), Gid: r.Intn(5)}}
	x, _, _ := build.Build(api.CapMax, told)
	for range r.Intn(40) {
		raw := build.Raw{Kind: 1 + r.Intn(4), Mode: someMode(r), Uid: r.Intn(3), Gid: r.Intn(5), Parent: 1 + r.Intn(len(told)), Name: string(rune('a' + r.Intn(4)))}
		switch raw.Kind {
		case api.File:
			raw.Data = make([]byte, r.Intn(49))
		case api.Link:
			raw.Mode, raw.Target = 511, somePath(r, 3)
		case build.Again:
			raw.Node = 1 + r.Intn(len(told))
		}
		more, _, err := build.Build(api.CapMax, append(slices.Clone(told), raw))
		if err == api.OK {
			x, told = more, append(told, raw)
		}
	}
	return x
}

// onlyOne tells whether two tables differ by one node at most, and of it by
// its mode, owner and group alone.
func onlyOne(before, after *table.Table) bool {
	others := 0
	for i := 1; i <= api.CapMax; i++ {
		was, _ := before.Get(i)
		is, _ := after.Get(i)
		if !node.Same(was, is) {
			others++
		}
		was.Mode, was.Uid, was.Gid = is.Mode, is.Uid, is.Gid
		if !node.Same(was, is) {
			return false
		}
	}
	return others <= 1 && before.Room() == after.Room()
}

// P13.3

func TestManyCalls(t *testing.T) {
	r := rand.New(rand.NewSource(13))
	cameUp := map[bool]map[api.Errno]int{false: {}, true: {}}
	changed := map[bool]int{}
	for range 3000 {
		x := someTree(r)
		for range 20 {
			a, c := someCall(r), everyone[r.Intn(len(everyone))]
			before := x.Clone()
			want, wantErr := a.second(x, c)
			err := a.do(x, c)
			if err != wantErr || !x.Same(want) {
				t.Fatalf("%v, by %v: %v, %v, want %v, %v, of %v", a, c, err, build.Tell(x), wantErr, build.Tell(want), build.Tell(before))
			}
			if !onlyOne(before, x) || !x.Right() || err != api.OK && !x.Same(before) {
				t.Fatalf("%v, by %v: %v of %v", a, c, build.Tell(x), build.Tell(before))
			}
			cameUp[a.own][err]++
			if !x.Same(before) {
				changed[a.own]++
			}
		}
	}
	for own, counts := range cameUp {
		for _, err := range []api.Errno{api.OK, api.EPERM, api.ENOENT, api.EACCES, api.ENOTDIR, api.EINVAL, api.ENAMETOOLONG, api.ELOOP} {
			if counts[err] < 50 {
				t.Errorf("%v came up %d times alone, of Chown: %v", err, counts[err], own)
			}
		}
		if changed[own] < 500 {
			t.Errorf("something was changed %d times alone, of Chown: %v", changed[own], own)
		}
	}
}
