package files

import (
	"bytes"
	"math"
	"math/rand"
	"slices"
	"strings"
	"testing"

	"gaoler/api"
	"gaoler/build"
	"gaoler/cred"
	"gaoler/node"
	"gaoler/resolve"
	"gaoler/table"
)

var (
	allRoot  = api.Cred{}
	ann      = api.Cred{Uid: 1, Gid: 1, Groups: []int{4}}
	bob      = api.Cred{Uid: 2, Gid: 2, Groups: []int{3}}
	cat      = api.Cred{Uid: 9, Gid: 9}
	noOne    = api.Cred{Uid: -1, Gid: -1, Groups: []int{-2}}
	everyone = []api.Cred{allRoot, ann, bob, cat, noOne}
)

// Nodes that are told are ann's, but links, which are root's; all of them are of group 3.

func dirAt(parent int, name string, mode int) build.Raw {
	return build.Raw{Kind: api.Dir, Mode: mode, Uid: 1, Gid: 3, Parent: parent, Name: name}
}

func fileAt(parent int, name string, mode int, data string) build.Raw {
	return build.Raw{Kind: api.File, Mode: mode, Uid: 1, Gid: 3, Parent: parent, Name: name, Data: []byte(data)}
}

func linkAt(parent int, name, target string) build.Raw {
	return build.Raw{Kind: api.Link, Mode: 511, Gid: 3, Parent: parent, Name: name, Target: target}
}

func againAt(parent int, name string, id int) build.Raw {
	return build.Raw{Kind: build.Again, Parent: parent, Name: name, Node: id}
}

func built(t *testing.T, room int, l ...build.Raw) *table.Table {
	t.Helper()
	x, place, err := build.Build(room, l)
	if err != api.OK {
		t.Fatalf("what is told is wrong at %d: %v", place, err)
	}
	return x
}

// sample has nodes of each kind, links of each sort, and directories that are shut.
func sample(t *testing.T) *table.Table {
	t.Helper()
	return built(t, api.CapMax,
		dirAt(0, "", 0o755),                // 1
		dirAt(1, "d", 0o755),               // 2
		fileAt(2, "f", 0o6777, "hello"),    // 3
		linkAt(1, "s", "d/f"),              // 4
		linkAt(1, "dir", "d"),              // 5
		linkAt(1, "dangles", "d/x"),        // 6
		linkAt(1, "self", "self"),          // 7
		dirAt(1, "shut", 0o700),            // 8
		fileAt(8, "f", 0o777, "shut"),      // 9
		linkAt(2, "into", "/grp/y"),        // 10
		linkAt(2, "top", "/"),              // 11
		dirAt(2, "empty", 0),               // 12
		dirAt(1, "grp", 0o2777),            // 13
		linkAt(2, "chain", "../s"),         // 14
		fileAt(13, "none", 0o6000, "none"), // 15
		againAt(2, "g", 3),                 // one more entry of 3
	)
}

func get(t *testing.T, x *table.Table, id int) node.Node {
	t.Helper()
	n, is := x.Get(id)
	if !is {
		t.Fatalf("there is no node %d", id)
	}
	return n
}

// put makes node id as it is wanted, ahead of a call.
func put(t *testing.T, x *table.Table, id int, n node.Node) {
	t.Helper()
	if err := x.Put(id, n); err != api.OK {
		t.Fatalf("node %d can't be %v: %v", id, n, err)
	}
}

func fileOf(mode, uid, gid int, data string) node.Node {
	return node.Node{Kind: api.File, Mode: mode, Uid: uid, Gid: gid, Data: []byte(data)}
}

// one is a table of a directory, and of a file in it: f, which is node 2.
func one(t *testing.T, f node.Node) *table.Table {
	t.Helper()
	x := built(t, 3, dirAt(0, "", 0o755), fileAt(1, "f", 0, ""))
	put(t, x, 2, f)
	return x
}

// usual is an Open whose umask and mode play no part, unless a file is made.
func usual(x *table.Table, c api.Cred, path string, flags int) (int, api.Errno) {
	return Open(x, c, 0o022, path, flags, 0o4666)
}

// wantOpened asks for an Open that is the number of a file that is there, and changes nothing.
func wantOpened(t *testing.T, x *table.Table, c api.Cred, path string, flags, id int) {
	t.Helper()
	wantCut(t, x, c, path, flags, id, get(t, x, id))
}

// wantCut asks for an Open that is the number of a file, which then is cut, in
// a table that it leaves as it was, and changes nothing else.
func wantCut(t *testing.T, x *table.Table, c api.Cred, path string, flags, id int, cut node.Node) {
	t.Helper()
	did, want := x.Clone(), x.Clone()
	put(t, want, id, cut)
	got, err := usual(did, c, path, flags)
	if got != id || err != api.OK {
		t.Errorf("%.80q with %d, by %d: %d, %v, want %d", path, flags, c.Uid, got, err, id)
	}
	if !did.Same(want) {
		t.Errorf("%.80q with %d, by %d: %v, want %v", path, flags, c.Uid, build.Tell(did), build.Tell(want))
	}
}

func wantFault(t *testing.T, x *table.Table, c api.Cred, path string, flags int, want api.Errno) {
	t.Helper()
	before := x.Clone()
	got, err := usual(x, c, path, flags)
	if err != want || got != 0 {
		t.Errorf("%.80q with %d, by %d: %d, %v, want %v", path, flags, c.Uid, got, err, want)
	}
	if !x.Same(before) {
		t.Errorf("%.80q with %d, by %d: a call that fails changes something", path, flags, c.Uid)
	}
}

// wantMade asks for an Open that makes the file in a directory, with that name,
// in a table that it leaves as it was, and changes nothing else.
func wantMade(t *testing.T, x *table.Table, c api.Cred, umask int, path string, flags, mode, in int, name string, made node.Node) {
	t.Helper()
	did, want := x.Clone(), x.Clone()
	id, err := want.Add(made)
	if err != api.OK {
		t.Fatalf("%v can't be made: %v", made, err)
	}
	dir, err := node.With(get(t, x, in), name, id)
	if err != api.OK {
		t.Fatalf("%d can't have %q: %v", in, name, err)
	}
	put(t, want, in, dir)
	got, err := Open(did, c, umask, path, flags, mode)
	if got != id || err != api.OK {
		t.Errorf("%.80q with %d, by %d: %d, %v, want %d", path, flags, c.Uid, got, err, id)
	}
	if !did.Same(want) {
		t.Errorf("%.80q with %d, by %d: %v, want %v", path, flags, c.Uid, build.Tell(did), build.Tell(want))
	}
}

// ofFlags tells whether a flag is one of those that a number is the sum of.
func ofFlags(flags, flag int) bool { return flags/flag%2 == 1 }

// mayBe tells whether numbers from 0 to 63 are flags that go together.
func mayBe(flags int) bool {
	switch {
	case !ofFlags(flags, 1) && !ofFlags(flags, 2):
		return false
	case ofFlags(flags, 16) && !ofFlags(flags, 2):
		return false
	}
	return !ofFlags(flags, 8) || ofFlags(flags, 4)
}

// flagsWith is all flags that may be that have some, and lack others.
func flagsWith(has, lacks int) []int {
	var l []int
	for flags := range 64 {
		if mayBe(flags) && flags&has == has && flags&lacks == 0 {
			l = append(l, flags)
		}
	}
	return l
}

// lets tells whether the bits of a mode that flags need are there for who asks.
func lets(c api.Cred, n node.Node, flags int) bool {
	if c.Uid == 0 {
		return true
	}
	class := n.Mode % 8
	switch {
	case c.Uid == n.Uid:
		class = n.Mode / 64 % 8
	case c.Gid == n.Gid || slices.Contains(c.Groups, n.Gid):
		class = n.Mode / 8 % 8
	}
	return (!ofFlags(flags, 1) || class/4%2 == 1) && (!ofFlags(flags, 2) || class/2%2 == 1)
}

// behind is the mode that a file has behind a write, by who asks.
func behind(c api.Cred, mode int) int {
	if c.Uid == 0 {
		return mode
	}
	if mode >= 2048 {
		mode -= 2048
	}
	if mode >= 1024 && mode/8%2 == 1 {
		mode -= 1024
	}
	return mode
}

func TestChapterExamples(t *testing.T) {
	x := sample(t)
	wantFault(t, x, ann, "d/f", Write|Creat|Excl, api.EEXIST)
	x = one(t, fileOf(0o644, 1, 3, "x"))
	if err := WriteAt(x, ann, 2, 2, []byte("ab")); err != api.OK {
		t.Error(err)
	}
	if n := get(t, x, 2); string(n.Data) != "x\x00ab" {
		t.Errorf("%q", n.Data)
	}
}

// P16.1

func TestNumbersOfFlags(t *testing.T) {
	if Read != 1 || Write != 2 || Creat != 4 || Excl != 8 || Trunc != 16 || NoFollow != 32 {
		t.Error("flags have other numbers")
	}
}

// somePaths is paths of all sorts: which one it is plays no part, where flags may not be.
var somePaths = []string{
	"d/f", "s", "/", "d", "x", "shut/f", "dangles", "self", "grp/none", "", "\x00", "d/f/", "x/y", strings.Repeat("n", 13), strings.Repeat("/", 65),
}

func TestFlagsThatMayNotBe(t *testing.T) {
	x := sample(t)
	wrong := []int{-1, -2, -63, -64, -65, math.MinInt, math.MinInt + 1, 64, 65, 66, 67, 127, 128, 256 + 1, 1<<32 + 1, 1<<62 + 2, math.MaxInt}
	right := 0
	for flags := range 64 {
		if !mayBe(flags) {
			wrong = append(wrong, flags)
			continue
		}
		right++
		for _, path := range []string{"d/f", "x"} {
			if _, err := usual(x.Clone(), allRoot, path, flags); err == api.EINVAL {
				t.Errorf("with %d: %v", flags, err)
			}
		}
	}
	if right != 30 {
		t.Errorf("%d flags may be", right)
	}
	for _, flags := range wrong {
		for _, path := range somePaths {
			for _, c := range everyone {
				wantFault(t, x, c, path, flags, api.EINVAL)
				wantFault(t, nil, c, path, flags, api.EINVAL)
			}
		}
	}
}

func TestOpen(t *testing.T) {
	x := sample(t)
	for _, flags := range flagsWith(0, Excl|Trunc) {
		for _, path := range []string{"d/f", "d/g", "/d/f", "dir/f", "//d//./../d/g", "d/top/d/f"} {
			for _, c := range everyone {
				wantOpened(t, x, c, path, flags, 3)
			}
		}
		wantOpened(t, x, ann, "shut/f", flags, 9)
		wantOpened(t, x, allRoot, "shut/f", flags, 9)
		wantFault(t, x, bob, "shut/f", flags, api.EACCES)
		wantOpened(t, x, allRoot, "grp/none", flags, 15)
		wantFault(t, x, ann, "grp/none", flags, api.EACCES)
	}
}

func TestOpenOfLinks(t *testing.T) {
	x := sample(t)
	for _, c := range everyone {
		for _, path := range []string{"s", "/s", "d/chain", "dir/chain"} {
			for _, flags := range flagsWith(0, Excl|Trunc|NoFollow) {
				wantOpened(t, x, c, path, flags, 3)
			}
		}
		for _, path := range []string{"s", "d/chain", "dir", "dangles", "self", "d/into", "d/top"} {
			for _, flags := range flagsWith(NoFollow, Excl) {
				wantFault(t, x, c, path, flags, api.ELOOP)
			}
			for _, flags := range flagsWith(Excl, 0) {
				wantFault(t, x, c, path, flags, api.EEXIST)
			}
		}
		for _, flags := range flagsWith(0, Excl|NoFollow) {
			wantFault(t, x, c, "self", flags, api.ELOOP)
			wantFault(t, x, c, "dir", flags, api.EISDIR)
			wantFault(t, x, c, "d/top", flags, api.EISDIR)
		}
		for _, flags := range flagsWith(0, Creat|NoFollow) {
			wantFault(t, x, c, "dangles", flags, api.ENOENT)
		}
		for _, flags := range flagsWith(0, 0) {
			wantFault(t, x, c, "self/", flags, api.ELOOP)
			wantFault(t, x, c, "dangles/", flags, api.ENOENT)
			wantFault(t, x, c, "s/", flags, api.ENOTDIR)
		}
	}
}

// No bit of it is asked of what is no file.
func TestOpenOfDirs(t *testing.T) {
	x := sample(t)
	for _, path := range []string{"/", ".", "..", "d", "d/.", "d/..", "d/empty", "dir/", "shut", "grp", "d/top/"} {
		for _, c := range everyone {
			for _, flags := range flagsWith(0, Excl) {
				wantFault(t, x, c, path, flags, api.EISDIR)
			}
			for _, flags := range flagsWith(Excl, 0) {
				wantFault(t, x, c, path, flags, api.EEXIST)
			}
		}
	}
}

func TestWhatIsLet(t *testing.T) {
	let, not := 0, 0
	for mode := range 512 {
		x := one(t, fileOf(mode, 1, 3, "hello"))
		for _, c := range everyone {
			for _, flags := range flagsWith(0, Excl|Trunc) {
				if lets(c, get(t, x, 2), flags) {
					let++
					wantOpened(t, x, c, "f", flags, 2)
				} else {
					not++
					wantFault(t, x, c, "f", flags, api.EACCES)
				}
			}
			for _, flags := range flagsWith(Trunc, Excl) {
				if lets(c, get(t, x, 2), flags) {
					wantCut(t, x, c, "f", flags, 2, fileOf(behind(c, mode), 1, 3, ""))
				} else {
					wantFault(t, x, c, "f", flags, api.EACCES)
				}
			}
		}
	}
	if let < 1000 || not < 1000 {
		t.Errorf("%d were let, %d weren't", let, not)
	}
}

func TestTrunc(t *testing.T) {
	x := sample(t)
	for _, flags := range flagsWith(Trunc, Excl) {
		wantCut(t, x, allRoot, "d/f", flags, 3, fileOf(0o6777, 1, 3, ""))
		wantCut(t, x, allRoot, "grp/none", flags, 15, fileOf(0o6000, 1, 3, ""))
		wantFault(t, x, ann, "grp/none", flags, api.EACCES)
		for _, c := range everyone[1:] {
			wantCut(t, x, c, "d/f", flags, 3, fileOf(0o777, 1, 3, ""))
			wantCut(t, x, c, "dir/g", flags, 3, fileOf(0o777, 1, 3, ""))
		}
	}
	for _, flags := range flagsWith(Trunc, Excl|NoFollow) {
		wantCut(t, x, bob, "d/chain", flags, 3, fileOf(0o777, 1, 3, ""))
	}
	// That it is there is told ahead of what isn't let.
	for _, flags := range flagsWith(Excl, 0) {
		wantFault(t, x, ann, "d/f", flags, api.EEXIST)
		wantFault(t, x, ann, "grp/none", flags, api.EEXIST)
	}
}

// P16.4, too: of each mode, whether there is something to cut or not.
func TestTruncOfAllModes(t *testing.T) {
	for mode := range 4096 {
		for _, data := range []string{"", "x", strings.Repeat("x", 48)} {
			x := one(t, fileOf(mode, 1, 3, data))
			for _, c := range everyone {
				f := get(t, x, 2)
				if !lets(c, f, Write) {
					wantFault(t, x, c, "f", Write|Trunc, api.EACCES)
					continue
				}
				wantCut(t, x, c, "f", Write|Trunc, 2, fileOf(behind(c, mode), 1, 3, ""))
				// What isn't cut stays, Suid too.
				wantOpened(t, x, c, "f", Write, 2)
			}
		}
	}
}

func TestCreat(t *testing.T) {
	x := sample(t)
	for path, at := range map[string]struct {
		in   int
		name string
	}{
		"x": {1, "x"}, "/x": {1, "x"}, "//./../x": {1, "x"}, "d/x": {2, "x"}, "dir/x": {2, "x"}, "d/top/d/x": {2, "x"}, "shut/x": {8, "x"}, "...": {1, "..."},
	} {
		for _, flags := range flagsWith(Creat, 0) {
			wantMade(t, x, ann, 0o022, path, flags, 0o666, at.in, at.name, fileOf(0o644, 1, 1, ""))
			wantMade(t, x, ann, 0o077, path, flags, 0o7777, at.in, at.name, fileOf(0o700, 1, 1, ""))
			// What its mode lets is not asked of what is made.
			wantMade(t, x, ann, 0o777, path, flags, 0o777, at.in, at.name, fileOf(0, 1, 1, ""))
			wantMade(t, x, allRoot, 0, path, flags, 0, at.in, at.name, fileOf(0, 0, 0, ""))
			for _, c := range []api.Cred{bob, cat, noOne} {
				wantFault(t, x, c, path, flags, api.EACCES)
			}
		}
		for _, flags := range flagsWith(0, Creat) {
			wantFault(t, x, allRoot, path, flags, api.ENOENT)
			wantFault(t, x, ann, path, flags, api.ENOENT)
		}
	}
	for _, flags := range flagsWith(Creat, 0) {
		for _, c := range everyone[:4] {
			wantMade(t, x, c, 0o002, "grp/x", flags, 0o2777, 13, "x", fileOf(0o775, c.Uid, 3, ""))
		}
		wantFault(t, x, noOne, "grp/x", flags, api.EINVAL)
	}
}

func TestModesOfWhatIsMade(t *testing.T) {
	x := built(t, 9, dirAt(0, "", 0o755))
	for mode := range 4096 {
		for _, other := range []int{0, 0o022, 0o644, 0o777, 0o7777, 0o10022, -1, math.MinInt, math.MaxInt} {
			wantMade(t, x, ann, other, "x", Write|Creat, mode, 1, "x", fileOf(mode&0o777&^other, 1, 1, ""))
			wantMade(t, x, ann, mode, "x", Read|Creat|Excl, other, 1, "x", fileOf(other&0o777&^mode, 1, 1, ""))
		}
	}
}

func TestCreatAlongLinks(t *testing.T) {
	x := sample(t)
	for _, flags := range flagsWith(Creat, Excl|NoFollow) {
		wantMade(t, x, ann, 0o022, "dangles", flags, 0o666, 2, "x", fileOf(0o644, 1, 1, ""))
		wantMade(t, x, cat, 0o022, "d/into", flags, 0o666, 13, "y", fileOf(0o644, 9, 3, ""))
		// A link is no leave: who asks must be let where it leads.
		wantFault(t, x, cat, "dangles", flags, api.EACCES)
	}
	for _, flags := range flagsWith(Creat, 0) {
		for path, want := range map[string]api.Errno{"dangles/": api.ENOENT, "dangles/x": api.ENOENT, "self/x": api.ELOOP, "x/": api.ENOENT, "x/.": api.ENOENT} {
			wantFault(t, x, ann, path, flags, want)
		}
	}
}

func TestCreatOfWhatIsThere(t *testing.T) {
	x := sample(t)
	for _, flags := range flagsWith(Creat, Excl|Trunc) {
		// Where there is a file, neither umask nor mode counts, nor its directory.
		for _, mode := range []int{0, 0o777, 0o7777, -1} {
			did := x.Clone()
			if id, err := Open(did, cat, mode, "d/f", flags, mode); id != 3 || err != api.OK || !did.Same(x) {
				t.Errorf("with %d: %d, %v, %v", flags, id, err, build.Tell(did))
			}
		}
	}
}

func TestNoRoom(t *testing.T) {
	small := built(t, 2, dirAt(0, "", 0o755), fileAt(1, "f", 0o600, "hi"))
	full := built(t, api.CapMax, dirAt(0, "", 0o755), fileAt(1, "f", 0o600, "hi"))
	for name := 'A'; name < 'H'; name++ {
		n, _ := node.With(get(t, full, 1), string(name), 2)
		put(t, full, 1, n)
	}
	for _, x := range []*table.Table{small, full} {
		for _, flags := range flagsWith(Creat, 0) {
			wantFault(t, x, allRoot, "x", flags, api.ENOSPC)
			wantFault(t, x, ann, "x", flags, api.ENOSPC)
			wantFault(t, x, cat, "x", flags, api.EACCES)
		}
		for _, flags := range flagsWith(Creat, Excl|Trunc) {
			wantOpened(t, x, ann, "f", flags, 2)
		}
	}
}

func TestWhoMayNotBe(t *testing.T) {
	x := built(t, 9, dirAt(0, "", 0o777), fileAt(1, "f", 0o666, "hi"), dirAt(1, "g", 0o2777))
	for _, id := range []int{-1, 65536, math.MinInt, math.MaxInt} {
		wrong := api.Cred{Uid: id, Gid: id}
		for _, flags := range flagsWith(Creat, 0) {
			wantFault(t, x, wrong, "x", flags, api.EINVAL)
			wantFault(t, x, wrong, "g/x", flags, api.EINVAL)
			wantFault(t, x, api.Cred{Uid: 1, Gid: id}, "x", flags, api.EINVAL)
			wantMade(t, x, api.Cred{Uid: 1, Gid: id}, 0, "g/x", flags, 0o640, 3, "x", fileOf(0o640, 1, 3, ""))
		}
		// What is there is opened by whoever is let.
		wantOpened(t, x, wrong, "f", Read|Write, 2)
		wantCut(t, x, wrong, "f", Write|Trunc, 2, fileOf(0o666, 1, 3, ""))
	}
}

func TestErrorsOfPaths(t *testing.T) {
	x := sample(t)
	for path, want := range map[string]api.Errno{
		"": api.ENOENT, strings.Repeat("/", 65): api.ENAMETOOLONG, strings.Repeat("\x00", 65): api.ENAMETOOLONG,
		"\x00": api.EINVAL, "d/f\x00": api.EINVAL, "x/\x00": api.EINVAL,
		strings.Repeat("n", 13): api.ENAMETOOLONG, "d/" + strings.Repeat("n", 13): api.ENAMETOOLONG,
		"d/f/": api.ENOTDIR, "d/f/x": api.ENOTDIR, "s/": api.ENOTDIR, "s/x": api.ENOTDIR, "grp/none/x": api.ENOTDIR,
		"shut/f": api.EACCES, "shut/x": api.EACCES, "shut/": api.EACCES, "d/empty/x": api.EACCES,
		"self/": api.ELOOP, "self/x": api.ELOOP, "x/y": api.ENOENT, "x/": api.ENOENT, "dangles/x": api.ENOENT,
	} {
		for _, flags := range flagsWith(0, 0) {
			wantFault(t, x, cat, path, flags, want)
			wantFault(t, x, noOne, path, flags, want)
		}
	}
}

func TestTablesWithoutNodeOne(t *testing.T) {
	gone := sample(t)
	gone.Drop(1)
	for _, x := range []*table.Table{nil, table.New(9), gone} {
		for path, want := range map[string]api.Errno{
			"": api.ENOENT, "/": api.ENOENT, "x": api.ENOENT, "d/f": api.ENOENT, "s": api.ENOENT,
			strings.Repeat("n", 13): api.ENOENT, strings.Repeat("/", 65): api.ENAMETOOLONG, "\x00": api.EINVAL,
		} {
			for _, flags := range flagsWith(0, 0) {
				wantFault(t, x, allRoot, path, flags, want)
				wantFault(t, x, cat, path, flags, want)
			}
		}
	}
	for _, x := range []*table.Table{nil, table.New(9)} {
		for i := -1; i < 26; i++ {
			wantNoRead(t, x, i, 0, 1, api.EBADF)
			wantNoWrite(t, x, allRoot, i, 0, []byte("x"), api.EBADF)
		}
	}
}

// P16.2

func wantRead(t *testing.T, x *table.Table, i, off, n int, want string) {
	t.Helper()
	before := x.Clone()
	b, err := ReadAt(x, i, off, n)
	if string(b) != want || err != api.OK {
		t.Errorf("of %d, %d at %d: %q, %v, want %q", i, n, off, b, err, want)
	}
	if !x.Same(before) {
		t.Errorf("of %d, %d at %d: what is read is changed", i, n, off)
	}
}

func wantNoRead(t *testing.T, x *table.Table, i, off, n int, want api.Errno) {
	t.Helper()
	before := x.Clone()
	b, err := ReadAt(x, i, off, n)
	if len(b) != 0 || err != want {
		t.Errorf("of %d, %d at %d: %q, %v, want %v", i, n, off, b, err, want)
	}
	if !x.Same(before) {
		t.Errorf("of %d, %d at %d: a call that fails changes something", i, n, off)
	}
}

const letters = "abcdefghijklmnopqrstuvwxyzABCDEFGHIJKLMNOPQRSTUV"

func TestReadAt(t *testing.T) {
	for size := range len(letters) + 1 {
		// Whatever its mode is: what is open may be read.
		x := one(t, fileOf(0, 1, 3, letters[:size]))
		for off := range 51 {
			for n := range 51 {
				want := ""
				for at := off; at < off+n && at < size; at++ {
					want += letters[at : at+1]
				}
				wantRead(t, x, 2, off, n, want)
			}
			wantRead(t, x, 2, off, math.MaxInt, letters[min(off, size):size])
			wantRead(t, x, 2, off, math.MaxInt-off, letters[min(off, size):size])
		}
		for _, off := range []int{49, 1 << 31, 1 << 32, 1 << 62, math.MaxInt - 1, math.MaxInt} {
			for _, n := range []int{0, 1, 48, 1 << 32, 1 << 62, math.MaxInt} {
				wantRead(t, x, 2, off, n, "")
			}
		}
	}
}

// noFiles is numbers of the sample that are no file's.
var noFiles = []int{math.MinInt, -1, 0, 1, 2, 4, 5, 6, 7, 8, 10, 11, 12, 13, 14, 16, 17, 24, 25, 26, 1<<32 + 3, math.MaxInt}

func TestReadAtThatMayNotBe(t *testing.T) {
	x := sample(t)
	for _, i := range noFiles {
		for _, off := range []int{math.MinInt, -1, 0, 1, 48} {
			for _, n := range []int{math.MinInt, -1, 0, 1, 48} {
				wantNoRead(t, x, i, off, n, api.EBADF)
			}
		}
	}
	for _, below := range []int{-1, -2, -48, math.MinInt} {
		for _, other := range []int{math.MinInt, -1, 0, 1, 5, 48, math.MaxInt} {
			wantNoRead(t, x, 3, below, other, api.EINVAL)
			wantNoRead(t, x, 3, other, below, api.EINVAL)
		}
	}
}

func TestWhatIsReadIsInNewMemory(t *testing.T) {
	x := one(t, fileOf(0o644, 1, 3, "hello"))
	b, err := ReadAt(x, 2, 1, 3)
	if string(b) != "ell" || err != api.OK {
		t.Errorf("%q, %v", b, err)
	}
	more := append(b, '!')
	b[0], more[0] = 'X', 'Y'
	wantRead(t, x, 2, 0, 9, "hello")
	other, _ := ReadAt(x, 2, 1, 3)
	other[1] = 'Z'
	if string(b[1:]) != "ll" {
		t.Errorf("%q", b)
	}
	if err := WriteAt(x, ann, 2, 0, []byte("12345")); err != api.OK || string(b[1:]) != "ll" {
		t.Errorf("%q, %v", b, err)
	}
}

// P16.3

// wantWritten asks for a WriteAt that makes a file as it is wanted, in a table
// that it leaves as it was, and changes nothing else.
func wantWritten(t *testing.T, x *table.Table, c api.Cred, i, off int, b []byte, f node.Node) {
	t.Helper()
	did, want, was := x.Clone(), x.Clone(), slices.Clone(b)
	put(t, want, i, f)
	if err := WriteAt(did, c, i, off, b); err != api.OK {
		t.Errorf("%d at %d of %d, by %d: %v", len(b), off, i, c.Uid, err)
	}
	if !did.Same(want) {
		t.Errorf("%d at %d of %d, by %d: %v, want %v", len(b), off, i, c.Uid, get(t, did, i), f)
	}
	if !bytes.Equal(b, was) {
		t.Errorf("%d at %d of %d, by %d: what is handed in is changed", len(b), off, i, c.Uid)
	}
}

func wantNoWrite(t *testing.T, x *table.Table, c api.Cred, i, off int, b []byte, want api.Errno) {
	t.Helper()
	before := x.Clone()
	if err := WriteAt(x, c, i, off, b); err != want {
		t.Errorf("%d at %d of %d, by %d: %v, want %v", len(b), off, i, c.Uid, err, want)
	}
	if !x.Same(before) {
		t.Errorf("%d at %d of %d, by %d: a call that fails changes something", len(b), off, i, c.Uid)
	}
}

// laid is bytes, byte by byte, of which some are others.
func laid(data string, off int, b string) string {
	fresh := ""
	for at := range max(len(data), off+len(b)) {
		switch {
		case at >= off && at < off+len(b):
			fresh += b[at-off : at-off+1]
		case at < len(data):
			fresh += data[at : at+1]
		default:
			fresh += "\x00"
		}
	}
	return fresh
}

func TestWriteAt(t *testing.T) {
	digits := strings.Repeat("0123456789", 5)
	for size := range len(letters) + 1 {
		x := one(t, fileOf(0, 1, 3, letters[:size]))
		for off := range 50 {
			for n := 1; n < 50; n++ {
				if off+n > 48 {
					wantNoWrite(t, x, cat, 2, off, []byte(digits[:n]), api.EFBIG)
					continue
				}
				// Whatever its mode is: what is open may be written.
				wantWritten(t, x, cat, 2, off, []byte(digits[:n]), fileOf(0, 1, 3, laid(letters[:size], off, digits[:n])))
			}
		}
	}
}

func TestWriteOfNothing(t *testing.T) {
	for _, mode := range []int{0, 0o6777, 0o7777} {
		x := one(t, fileOf(mode, 1, 3, "hello"))
		for _, c := range everyone {
			for _, off := range []int{0, 1, 5, 6, 48, 49, 1 << 32, 1 << 62, math.MaxInt} {
				for _, b := range [][]byte{nil, {}} {
					wantWritten(t, x, c, 2, off, b, fileOf(mode, 1, 3, "hello"))
				}
			}
		}
	}
}

func TestWriteOfTooMuch(t *testing.T) {
	x := one(t, fileOf(0o6777, 1, 3, "hello"))
	for _, c := range everyone {
		for _, off := range []int{48, 49, 1 << 31, 1 << 32, 1 << 62, math.MaxInt - 48, math.MaxInt - 47, math.MaxInt - 1, math.MaxInt} {
			for _, n := range []int{1, 2, 47, 48, 49} {
				wantNoWrite(t, x, c, 2, off, make([]byte, n), api.EFBIG)
			}
		}
		for _, n := range []int{49, 50, 1 << 10, 1 << 20} {
			for off := range 49 {
				wantNoWrite(t, x, c, 2, off, make([]byte, n), api.EFBIG)
			}
		}
		wantNoWrite(t, x, c, 2, 1, make([]byte, 48), api.EFBIG)
		wantWritten(t, x, c, 2, 0, make([]byte, 48), fileOf(behind(c, 0o6777), 1, 3, strings.Repeat("\x00", 48)))
		wantWritten(t, x, c, 2, 47, []byte("!"), fileOf(behind(c, 0o6777), 1, 3, laid("hello", 47, "!")))
	}
}

func TestWriteAtThatMayNotBe(t *testing.T) {
	x := sample(t)
	for _, c := range everyone {
		for _, b := range [][]byte{nil, {}, []byte("x"), make([]byte, 48), make([]byte, 49)} {
			for _, i := range noFiles {
				for _, off := range []int{math.MinInt, -1, 0, 1, 48, 49, math.MaxInt} {
					wantNoWrite(t, x, c, i, off, b, api.EBADF)
				}
			}
			for _, off := range []int{-1, -2, -48, -49, math.MinInt, math.MinInt + 1} {
				wantNoWrite(t, x, c, 3, off, b, api.EINVAL)
			}
		}
	}
}

func TestWriteOfAllModes(t *testing.T) {
	for mode := range 4096 {
		x := one(t, fileOf(mode, 1, 3, "hello"))
		for _, c := range everyone {
			wantWritten(t, x, c, 2, 1, []byte("i"), fileOf(behind(c, mode), 1, 3, "hillo"))
			// Also what writes what was there.
			wantWritten(t, x, c, 2, 0, []byte("hello"), fileOf(behind(c, mode), 1, 3, "hello"))
		}
	}
}

func TestWhatIsWrittenIsInNewMemory(t *testing.T) {
	x := one(t, fileOf(0o644, 1, 3, "hello"))
	room := []byte("12345678")
	if err := WriteAt(x, ann, 2, 4, room[:3]); err != api.OK {
		t.Error(err)
	}
	copy(room, "????????")
	wantRead(t, x, 2, 0, 48, "hell123")
	clone := x.Clone()
	if err := WriteAt(x, ann, 2, 0, []byte("H")); err != api.OK {
		t.Error(err)
	}
	wantRead(t, clone, 2, 0, 48, "hell123")
	wantRead(t, x, 2, 0, 48, "Hell123")
}

// All of them

// A file that no entry has is still read and written, while it is open.
func TestOpenNodes(t *testing.T) {
	x := built(t, 4, dirAt(0, "", 0o755))
	id, err := x.Add(fileOf(0o4755, 1, 3, "open"))
	if err != api.OK {
		t.Fatal(err)
	}
	wantRead(t, x, id, 1, 9, "pen")
	wantWritten(t, x, cat, id, 5, []byte("!"), fileOf(0o755, 1, 3, "open\x00!"))
	wantNoWrite(t, x, cat, id, 48, []byte("!"), api.EFBIG)
	wantNoRead(t, x, id, -1, 1, api.EINVAL)
	// No path leads to it, and its number isn't given again.
	wantFault(t, x, ann, "open", Read, api.ENOENT)
	wantMade(t, x, ann, 0, "open", Write|Creat|Trunc, 0o600, 1, "open", fileOf(0o600, 1, 1, ""))
	if made, err := usual(x, ann, "open", Write|Creat); made == id || err != api.OK || !x.Right(id) {
		t.Error(made, err)
	}
}

func TestWhatIsOpenedIsReadAndWritten(t *testing.T) {
	x := built(t, 9, dirAt(0, "", 0o777), linkAt(1, "l", "f"))
	id, err := Open(x, ann, 0o022, "l", Read|Write|Creat, 0o6777)
	if id != 3 || err != api.OK || WriteAt(x, ann, id, 0, []byte("hello")) != api.OK {
		t.Fatal(id, err)
	}
	same, err := usual(x, bob, "f", Read|NoFollow)
	if same != id || err != api.OK {
		t.Error(same, err)
	}
	wantRead(t, x, same, 0, 48, "hello")
	wantFault(t, x, bob, "l", Write|Trunc, api.EACCES)
	if cut, err := usual(x, ann, "l", Write|Trunc); cut != id || err != api.OK {
		t.Error(cut, err)
	}
	wantRead(t, x, same, 0, 48, "")
	if f := get(t, x, id); f.Mode != 0o755 || f.Uid != 1 || f.Gid != 1 || !x.Right() {
		t.Error(f)
	}
}

func TestWhoAsksIsNotChanged(t *testing.T) {
	x := sample(t)
	groups := []int{3, 4}
	c := api.Cred{Uid: 1, Gid: 1, Groups: groups}
	for _, path := range []string{"d/f", "x"} {
		if id, err := usual(x, c, path, Write|Creat|Trunc); err != api.OK || WriteAt(x, c, id, 0, []byte("x")) != api.OK {
			t.Error(id, err)
		}
	}
	if !slices.Equal(groups, []int{3, 4}) {
		t.Error(groups)
	}
	// Nor kept.
	before := x.Clone()
	groups[0], groups[1] = 7, 8
	if !x.Same(before) {
		t.Error("who changes groups changes the table")
	}
}

func TestApartFromClones(t *testing.T) {
	x := sample(t)
	clone, before := x.Clone(), x.Clone()
	for _, path := range []string{"d/f", "x"} {
		if id, err := usual(x, ann, path, Write|Creat|Trunc); err != api.OK || WriteAt(x, ann, id, 0, []byte("x")) != api.OK {
			t.Error(id, err)
		}
	}
	if !clone.Same(before) || x.Same(before) {
		t.Error("a call of one table changes another one")
	}
}

// P16.4, and a second reading of the chapter, of many trees by chance of one seed.

// rule is an error, and whether it is told, where no one ahead is.
type rule struct {
	holds bool
	err   api.Errno
}

func firstOf(rules ...rule) api.Errno {
	for _, r := range rules {
		if r.holds {
			return r.err
		}
	}
	return api.OK
}

// asked is an Open by chance.
type asked struct {
	umask, flags, mode int
	path               string
}

// second is the table behind an Open, in new memory, its number, and the error.
func (a asked) second(x *table.Table, c api.Cred) (*table.Table, int, api.Errno) {
	after := x.Clone()
	if a.flags < 0 || a.flags > 63 || !mayBe(a.flags) {
		return after, 0, api.EINVAL
	}
	f, err := resolve.Resolve(x, c, a.path, !ofFlags(a.flags, 8) && !ofFlags(a.flags, 32))
	n, is := x.Get(f.Node)
	fault := firstOf(
		rule{err != api.OK, err}, rule{!is && !ofFlags(a.flags, 4), api.ENOENT},
		rule{is && ofFlags(a.flags, 8), api.EEXIST}, rule{n.Kind == api.Link, api.ELOOP}, rule{n.Kind == api.Dir, api.EISDIR},
		rule{is && !lets(c, n, a.flags), api.EACCES},
	)
	switch {
	case fault != api.OK:
		return after, 0, fault
	case !is:
		return a.secondMade(x, c, f)
	case ofFlags(a.flags, 16):
		after.Put(f.Node, fileOf(behind(c, n.Mode), n.Uid, n.Gid, ""))
	}
	return after, f.Node, api.OK
}

// secondMade is likewise, of an Open that makes a file where none was found.
func (a asked) secondMade(x *table.Table, c api.Cred, f resolve.Found) (*table.Table, int, api.Errno) {
	after := x.Clone()
	dir, _ := x.Get(f.Dir)
	gid := c.Gid
	if ofFlags(dir.Mode, 1024) {
		gid = dir.Gid
	}
	fault := firstOf(
		rule{!cred.Can(c, dir.Uid, dir.Gid, dir.Mode, 2) || !cred.Can(c, dir.Uid, dir.Gid, dir.Mode, 1), api.EACCES},
		rule{len(dir.Ents) == 8 || x.Used() == x.Room(), api.ENOSPC},
		rule{c.Uid < 0 || gid < 0, api.EINVAL},
	)
	if fault != api.OK {
		return after, 0, fault
	}
	id, _ := after.Add(fileOf(a.mode&511&^a.umask, c.Uid, gid, ""))
	dir, _ = node.With(dir, f.Name, id)
	after.Put(f.Dir, dir)
	return after, id, api.OK
}

func somePath(r *rand.Rand, most int) string {
	pieces := []string{"a", "b", "c", "d", "e", "f", "g", "h", "i", "a", "b", "c", "d", "a", "b", "c", "d", ".", "..", "", "nnnnnnnnnnnnn"}
	var names []string
	for range 1 + r.Intn(most) {
		names = append(names, pieces[r.Intn(len(pieces))])
	}
	path := strings.Join(names, "/")
	if path == "" || r.Intn(3) == 0 {
		path = "/" + path
	}
	return path
}

func someMode(r *rand.Rand) int {
	if r.Intn(3) > 0 {
		return 0o777 | r.Intn(8)<<9
	}
	return r.Intn(4096)
}

func someFlags(r *rand.Rand) int {
	if r.Intn(20) == 0 {
		return r.Intn(3*64) - 64
	}
	l := flagsWith(0, []int{0, Excl, Excl | NoFollow}[r.Intn(3)])
	return l[r.Intn(len(l))]
}

func someCall(r *rand.Rand) asked {
	return asked{umask: r.Intn(2 * 4096), flags: someFlags(r), mode: r.Intn(3*4096) - 4096, path: somePath(r, 3)}
}

// someTree is a table that is Right, of nodes that were told by chance.
func someTree(r *rand.Rand) *table.Table {
	told := []build.Raw{{Kind: api.Dir, Mode: 0o777 | r.Intn(8)<<9, Uid: r.Intn(3), Gid: r.Intn(5)}}
	room := 2 + r.Intn(api.CapMax)
	x, _, _ := build.Build(room, told)
	for range r.Intn(40) {
		raw := build.Raw{Kind: 1 + r.Intn(4), Mode: someMode(r), Uid: r.Intn(3), Gid: r.Intn(5), Parent: 1 + r.Intn(len(told)), Name: string(rune('a' + r.Intn(9)))}
		switch raw.Kind {
		case api.File:
			raw.Data = make([]byte, r.Intn(49))
			r.Read(raw.Data)
		case api.Link:
			raw.Mode, raw.Target = 511, somePath(r, 3)
		case build.Again:
			raw.Node = 1 + r.Intn(len(told))
		}
		more, _, err := build.Build(room, append(slices.Clone(told), raw))
		if err == api.OK {
			x, told = more, append(told, raw)
		}
	}
	return x
}

func TestManyOpens(t *testing.T) {
	r := rand.New(rand.NewSource(16))
	cameUp := map[api.Errno]int{}
	opened, cut, made := 0, 0, 0
	for range 4000 {
		x := someTree(r)
		for range 20 {
			a, c := someCall(r), everyone[r.Intn(len(everyone))]
			before := x.Clone()
			want, wantId, wantErr := a.second(x, c)
			id, err := Open(x, c, a.umask, a.path, a.flags, a.mode)
			if id != wantId || err != wantErr || !x.Same(want) {
				t.Fatalf("%v, by %v: %d, %v, %v, want %d, %v, %v, of %v", a, c, id, err, build.Tell(x), wantId, wantErr, build.Tell(want), build.Tell(before))
			}
			if !x.Right() || x.Room() != before.Room() || err != api.OK && !x.Same(before) {
				t.Fatalf("%v, by %v: %v of %v", a, c, build.Tell(x), build.Tell(before))
			}
			cameUp[err]++
			switch {
			case err != api.OK:
			case x.Used() > before.Used():
				made++
			case ofFlags(a.flags, Trunc):
				cut++
				wantSafe(t, x, c, id)
			default:
				opened++
			}
		}
	}
	for _, err := range []api.Errno{
		api.OK, api.ENOENT, api.EACCES, api.EEXIST, api.ENOTDIR, api.EISDIR, api.EINVAL, api.ENOSPC, api.ENAMETOOLONG, api.ELOOP,
	} {
		if cameUp[err] < 50 {
			t.Errorf("%v came up %d times alone", err, cameUp[err])
		}
	}
	if min(opened, cut, made) < 500 {
		t.Errorf("%d were opened alone, %d cut, %d made", opened, cut, made)
	}
}

// wantSafe asks of a file that who asks has written or cut that nobody is another one by it.
func wantSafe(t *testing.T, x *table.Table, c api.Cred, id int) {
	t.Helper()
	mode := get(t, x, id).Mode
	if c.Uid != 0 && (mode >= 2048 || mode >= 1024 && mode/8%2 == 1) {
		t.Errorf("mode %o of %d, behind %d", mode, id, c.Uid)
	}
}

// secondRead is what is read of a table, byte by byte.
func secondRead(x *table.Table, i, off, n int) (string, api.Errno) {
	f, _ := x.Get(i)
	fault := firstOf(rule{f.Kind != api.File, api.EBADF}, rule{off < 0 || n < 0, api.EINVAL})
	read := ""
	for at, b := range f.Data {
		if fault == api.OK && at >= off && at-off < n {
			read += string([]byte{b})
		}
	}
	return read, fault
}

// secondWritten is the table behind a write, in new memory, and its error.
func secondWritten(x *table.Table, c api.Cred, i, off int, b string) (*table.Table, api.Errno) {
	after := x.Clone()
	f, _ := x.Get(i)
	fault := firstOf(rule{f.Kind != api.File, api.EBADF}, rule{off < 0, api.EINVAL}, rule{b != "" && off+len(b) > 48, api.EFBIG})
	if fault == api.OK && b != "" {
		after.Put(i, fileOf(behind(c, f.Mode), f.Uid, f.Gid, laid(string(f.Data), off, b)))
	}
	return after, fault
}

func TestManyReadsAndWrites(t *testing.T) {
	r := rand.New(rand.NewSource(17))
	reads, writes := map[api.Errno]int{}, map[api.Errno]int{}
	for range 3000 {
		x := someTree(r)
		for range 20 {
			i, off, n, c := r.Intn(api.CapMax+4)-1, r.Intn(64)-12, r.Intn(30)-1, everyone[r.Intn(len(everyone))]
			before := x.Clone()
			want, wantErr := secondRead(x, i, off, n)
			b, err := ReadAt(x, i, off, n)
			if string(b) != want || err != wantErr || !x.Same(before) {
				t.Fatalf("of %d, %d at %d: %q, %v, want %q, %v", i, n, off, b, err, want, wantErr)
			}
			reads[err]++
			b = make([]byte, max(n, 0))
			r.Read(b)
			after, wantErr := secondWritten(x, c, i, off, string(b))
			err = WriteAt(x, c, i, off, b)
			if err != wantErr || !x.Same(after) || !x.Right() {
				t.Fatalf("%q at %d of %d, by %v: %v, %v, want %v, %v", b, off, i, c, err, build.Tell(x), wantErr, build.Tell(after))
			}
			writes[err]++
			if err == api.OK && len(b) > 0 {
				wantSafe(t, x, c, i)
			}
		}
	}
	for _, err := range []api.Errno{api.OK, api.EBADF, api.EINVAL} {
		if min(reads[err], writes[err]) < 500 {
			t.Errorf("%v came up %d and %d times alone", err, reads[err], writes[err])
		}
	}
	if writes[api.EFBIG] < 500 {
		t.Errorf("EFBIG came up %d times alone", writes[api.EFBIG])
	}
}
