package resolve

import (
	"math"
	"math/rand"
	"slices"
	"strings"
	"testing"

	"gaoler/api"
	"gaoler/build"
	"gaoler/cred"
	"gaoler/node"
	"gaoler/table"
)

var (
	allRoot  = api.Cred{}
	ann      = api.Cred{Uid: 1, Gid: 1}
	bob      = api.Cred{Uid: 2, Gid: 2, Groups: []int{3}}
	cat      = api.Cred{Uid: 9, Gid: 9}
	everyone = []api.Cred{allRoot, ann, bob, cat}
)

func dirAt(parent int, name string, mode int) build.Raw {
	return build.Raw{Kind: api.Dir, Mode: mode, Uid: 1, Gid: 3, Parent: parent, Name: name}
}

func fileAt(parent int, name string) build.Raw {
	return build.Raw{Kind: api.File, Mode: 0o640, Uid: 1, Gid: 3, Parent: parent, Name: name}
}

func linkAt(parent int, name, target string) build.Raw {
	return build.Raw{Kind: api.Link, Mode: 511, Parent: parent, Name: name, Target: target}
}

func built(t *testing.T, l ...build.Raw) *table.Table {
	t.Helper()
	x, place, err := build.Build(api.CapMax, l)
	if err != api.OK {
		t.Fatalf("what is told is wrong at %d: %v", place, err)
	}
	return x
}

func wantFound(t *testing.T, x *table.Table, c api.Cred, path string, follow bool, want Found) {
	t.Helper()
	if got, err := Resolve(x, c, path, follow); got != want || err != api.OK {
		t.Errorf("Resolve(of %d, %.80q, %v) = %v, %v, want %v", c.Uid, path, follow, got, err, want)
	}
}

func wantFault(t *testing.T, x *table.Table, c api.Cred, path string, follow bool, want api.Errno) {
	t.Helper()
	if got, err := Resolve(x, c, path, follow); got != (Found{}) || err != want {
		t.Errorf("Resolve(of %d, %.80q, %v) = %v, %v, want %v", c.Uid, path, follow, got, err, want)
	}
}

// wantBoth asks with and without follow.
func wantBoth(t *testing.T, x *table.Table, c api.Cred, path string, want Found) {
	t.Helper()
	wantFound(t, x, c, path, false, want)
	wantFound(t, x, c, path, true, want)
}

func wantNeither(t *testing.T, x *table.Table, c api.Cred, path string, want api.Errno) {
	t.Helper()
	wantFault(t, x, c, path, false, want)
	wantFault(t, x, c, path, true, want)
}

// A second reading of the chapter: paths are texts that are shortened, name by name.

// firstName is a text's first name, what stands behind it, and whether there is one.
func firstName(path string) (string, string, bool) {
	path = strings.TrimLeft(path, "/")
	name, rest, cut := strings.Cut(path, "/")
	if cut && strings.Trim(rest, "/") == "" {
		// A slash at the end is read as one more name.
		rest = "."
	}
	return name, rest, name != ""
}

type reading struct {
	x      *table.Table
	c      api.Cred
	follow bool
}

func (r reading) resolve(path string) (Found, api.Errno) {
	if path == "" {
		return Found{}, api.ENOENT
	}
	if len(path) > 64 {
		return Found{}, api.ENAMETOOLONG
	}
	if strings.Contains(path, "\x00") {
		return Found{}, api.EINVAL
	}
	if _, is := r.x.Get(1); !is {
		return Found{}, api.ENOENT
	}
	return r.from(1, path, 0)
}

func (r reading) from(at int, path string, followed int) (Found, api.Errno) {
	name, rest, is := firstName(path)
	if !is {
		return Found{at, "", at}, api.OK
	}
	n, _ := r.x.Get(at)
	if n.Kind != api.Dir {
		return Found{}, api.ENOTDIR
	}
	if !cred.Can(r.c, n.Uid, n.Gid, n.Mode, 1) {
		return Found{}, api.EACCES
	}
	if name == "." {
		return r.from(at, rest, followed)
	}
	if name == ".." {
		if parent := r.x.Parent(at); parent > 0 {
			at = parent
		}
		return r.from(at, rest, followed)
	}
	if len(name) > 12 {
		return Found{}, api.ENAMETOOLONG
	}
	return r.entry(at, name, rest, followed)
}

func (r reading) entry(at int, name, rest string, followed int) (Found, api.Errno) {
	n, _ := r.x.Get(at)
	id := 0
	for _, e := range n.Ents {
		if e.Name == name {
			id = e.Node
			break
		}
	}
	_, _, more := firstName(rest)
	if id == 0 && more {
		return Found{}, api.ENOENT
	}
	to, _ := r.x.Get(id)
	if to.Kind == api.Link && (more || r.follow) {
		if followed == 8 {
			return Found{}, api.ELOOP
		}
		if strings.HasPrefix(to.Target, "/") {
			at = 1
		}
		ahead := to.Target
		if more {
			// A slash at a target's end is a name, also where names are left.
			if _, _, is := firstName(to.Target); is && strings.HasSuffix(to.Target, "/") {
				ahead += "."
			}
			ahead += "/" + rest
		}
		return r.from(at, ahead, followed+1)
	}
	if more {
		return r.from(id, rest, followed)
	}
	return Found{at, name, id}, api.OK
}

func holdAgainst(t *testing.T, x *table.Table, c api.Cred, path string, follow bool) (Found, api.Errno) {
	t.Helper()
	got, err := Resolve(x, c, path, follow)
	want, wantErr := reading{x, c, follow}.resolve(path)
	if got != want || err != wantErr {
		t.Errorf("Resolve(of %d, %.80q, %v) = %v, %v, want %v, %v, of %v", c.Uid, path, follow, got, err, want, wantErr, build.Tell(x))
	}
	return got, err
}

// P11.1

func TestCanAsksOfWhoTheNodeIs(t *testing.T) {
	x := built(t, dirAt(0, "", 0o751), fileAt(1, "f"))
	for _, c := range []struct {
		who     api.Cred
		i, want int
		can     bool
	}{
		{ann, 1, 7, true}, {ann, 2, 6, true}, {ann, 2, 1, false}, {ann, 2, 7, false},
		{bob, 1, 5, true}, {bob, 1, 2, false}, {bob, 2, 4, true}, {bob, 2, 2, false},
		{cat, 1, 1, true}, {cat, 1, 4, false}, {cat, 2, 4, false}, {cat, 2, 0, true},
		{allRoot, 1, 7, true}, {allRoot, 2, 7, true},
	} {
		if got := Can(x, c.who, c.i, c.want); got != c.can {
			t.Errorf("Can(of %d, %d, %d) = %v", c.who.Uid, c.i, c.want, got)
		}
	}
}

func TestCanOfAllModes(t *testing.T) {
	x := built(t, dirAt(0, "", 0))
	for mode := range 4096 {
		if err := x.Put(1, node.Node{Kind: api.Dir, Mode: mode, Uid: 1, Gid: 3}); err != api.OK {
			t.Fatal(err)
		}
		for _, c := range everyone {
			for _, want := range []int{math.MinInt, -1, 0, 1, 2, 3, 4, 5, 6, 7, 8, 9, 4095, math.MaxInt} {
				if got := Can(x, c, 1, want); got != cred.Can(c, 1, 3, mode, want) {
					t.Fatalf("Can(of %d, mode %o, %d) = %v", c.Uid, mode, want, got)
				}
			}
		}
	}
}

func TestNobodyCanWhatIsNotThere(t *testing.T) {
	x := built(t, dirAt(0, "", 0o777), fileAt(1, "f"))
	for _, i := range []int{math.MinInt, -1, 0, 3, 24, 25, 1<<32 + 1, math.MaxInt} {
		for _, c := range everyone {
			for want := range 8 {
				if Can(x, c, i, want) {
					t.Errorf("Can(of %d, %d, %d)", c.Uid, i, want)
				}
			}
		}
	}
	if Can(nil, allRoot, 1, 0) || Can(table.New(3), allRoot, 1, 0) {
		t.Error("root can what no table has")
	}
}

// P11.2

// chapterTree is that of the chapter's examples.
func chapterTree(t *testing.T) *table.Table {
	t.Helper()
	return built(t, dirAt(0, "", 0o755), dirAt(1, "d", 0o755), fileAt(2, "f"), linkAt(1, "s", "d/f"))
}

func TestChapterExamples(t *testing.T) {
	x := chapterTree(t)
	wantFound(t, x, cat, "s", true, Found{2, "f", 3})
	wantFound(t, x, cat, "s", false, Found{1, "s", 4})
	wantBoth(t, x, cat, "d/x", Found{2, "x", 0})
}

func TestPathsThatMayNotBe(t *testing.T) {
	x := chapterTree(t)
	none := table.New(3)
	long := strings.Repeat("/", 65)
	for _, c := range []struct {
		path string
		want api.Errno
	}{
		{"", api.ENOENT}, {long, api.ENAMETOOLONG}, {strings.Repeat("d", 65), api.ENAMETOOLONG},
		{strings.Repeat("\x00", 65), api.ENAMETOOLONG}, {long[1:] + "\x00", api.ENAMETOOLONG},
		{"\x00", api.EINVAL}, {"d\x00", api.EINVAL}, {"/\x00/f", api.EINVAL}, {"x/\x00", api.EINVAL}, {long[2:] + "\x00", api.EINVAL},
		{strings.Repeat("x", 13) + "/\x00", api.EINVAL},
	} {
		wantNeither(t, x, allRoot, c.path, c.want)
		wantNeither(t, none, allRoot, c.path, c.want)
		wantNeither(t, nil, allRoot, c.path, c.want)
	}
	wantBoth(t, x, cat, long[1:], Found{1, "", 1})
	wantBoth(t, x, cat, long[2:]+"d", Found{1, "d", 2})
}

func TestWithoutNodeOne(t *testing.T) {
	x := chapterTree(t)
	x.Drop(1)
	for _, path := range []string{"/", "d", ".", "..", "d/f", strings.Repeat("x", 13), "s"} {
		wantNeither(t, x, allRoot, path, api.ENOENT)
		wantNeither(t, table.New(24), allRoot, path, api.ENOENT)
	}
}

func TestNamesAreTakenInOrder(t *testing.T) {
	x := built(t, dirAt(0, "", 0o755), dirAt(1, "a", 0o755), dirAt(2, "b", 0o755), fileAt(3, "f"), fileAt(1, "f"))
	wantBoth(t, x, cat, "a", Found{1, "a", 2})
	wantBoth(t, x, cat, "/a", Found{1, "a", 2})
	wantBoth(t, x, cat, "a/b", Found{2, "b", 3})
	wantBoth(t, x, cat, "///a//b///f", Found{3, "f", 4})
	wantBoth(t, x, cat, "f", Found{1, "f", 5})
	wantNeither(t, x, cat, "b/a", api.ENOENT)
}

func TestStayAndUp(t *testing.T) {
	x := built(t, dirAt(0, "", 0o755), dirAt(1, "a", 0o755), dirAt(2, "b", 0o755), fileAt(3, "f"))
	wantBoth(t, x, cat, "/", Found{1, "", 1})
	wantBoth(t, x, cat, ".", Found{1, "", 1})
	wantBoth(t, x, cat, "..", Found{1, "", 1})
	wantBoth(t, x, cat, "/../..", Found{1, "", 1})
	wantBoth(t, x, cat, "a/", Found{2, "", 2})
	wantBoth(t, x, cat, "a/.", Found{2, "", 2})
	wantBoth(t, x, cat, "a/..", Found{1, "", 1})
	wantBoth(t, x, cat, "a/b/..", Found{2, "", 2})
	wantBoth(t, x, cat, "a/b/../", Found{2, "", 2})
	wantBoth(t, x, cat, "a/./b/../b/f", Found{3, "f", 4})
	wantBoth(t, x, cat, "../a/../a/x", Found{2, "x", 0})
	wantBoth(t, x, cat, "...", Found{1, "...", 0})
	wantNeither(t, x, cat, "x/..", api.ENOENT)
}

func TestUpIsTheLeastParent(t *testing.T) {
	// No tree: node 4 is in 2 and in 3.
	x := table.New(9)
	for _, ents := range [][]node.Ent{{{Name: "a", Node: 2}, {Name: "b", Node: 3}}, {{Name: "d", Node: 4}}, {{Name: "d", Node: 4}}, nil} {
		if _, err := x.Add(node.Node{Kind: api.Dir, Mode: 0o755, Ents: ents}); err != api.OK {
			t.Fatal(err)
		}
	}
	wantBoth(t, x, cat, "b/d/..", Found{2, "", 2})
	wantBoth(t, x, cat, "b/d/../x", Found{2, "x", 0})
}

func TestWhatIsNoDirectory(t *testing.T) {
	x := chapterTree(t)
	for _, path := range []string{"d/f/", "d/f/.", "d/f/..", "d/f/x", "d/f/x/y", "d/f/" + strings.Repeat("x", 13), "s/", "s/x", "s/.."} {
		for _, c := range everyone {
			wantNeither(t, x, c, path, api.ENOTDIR)
		}
	}
	// What isn't there is no directory, and neither is a File that is node 1.
	if err := x.Put(1, node.Node{Kind: api.Dir, Mode: 0o755, Ents: []node.Ent{{Name: "gone", Node: 9}}}); err != api.OK {
		t.Fatal(err)
	}
	wantBoth(t, x, cat, "gone", Found{1, "gone", 9})
	wantNeither(t, x, allRoot, "gone/x", api.ENOTDIR)
	if err := x.Put(1, node.Node{Kind: api.File}); err != api.OK {
		t.Fatal(err)
	}
	wantBoth(t, x, cat, "/", Found{1, "", 1})
	wantNeither(t, x, cat, "x", api.ENOTDIR)
	wantNeither(t, x, cat, "./", api.ENOTDIR)
}

func TestWhatMayNotBeSearched(t *testing.T) {
	x := built(t, dirAt(0, "", 0o755), dirAt(1, "a", 0o710), fileAt(2, "f"), linkAt(2, "up", "/"), linkAt(1, "s", "a/f"), dirAt(1, "none", 0o666))
	for _, path := range []string{"a/f", "a/x", "a/.", "a/..", "a/", "a/up", "a/" + strings.Repeat("x", 13), "a/x/y"} {
		wantNeither(t, x, cat, path, api.EACCES)
	}
	wantBoth(t, x, cat, "a", Found{1, "a", 2})
	wantFault(t, x, cat, "s", true, api.EACCES)
	wantFound(t, x, cat, "s", false, Found{1, "s", 5})
	for _, c := range []api.Cred{allRoot, ann, bob} {
		wantBoth(t, x, c, "a/f", Found{2, "f", 3})
		wantBoth(t, x, c, "a/..", Found{1, "", 1})
		wantFound(t, x, c, "s", true, Found{2, "f", 3})
	}
	for _, c := range []api.Cred{ann, bob, cat} {
		wantNeither(t, x, c, "none/.", api.EACCES)
		wantNeither(t, x, c, "none/..", api.EACCES)
		wantNeither(t, x, c, "none/x", api.EACCES)
	}
	wantBoth(t, x, allRoot, "none/x", Found{6, "x", 0})
}

func TestNodeOneIsSearchedToo(t *testing.T) {
	x := built(t, dirAt(0, "", 0o700), fileAt(1, "f"))
	for _, path := range []string{"f", "x", ".", "..", "x/y", "./"} {
		wantNeither(t, x, cat, path, api.EACCES)
	}
	// A path without names takes none.
	wantBoth(t, x, cat, "/", Found{1, "", 1})
	wantBoth(t, x, cat, "//", Found{1, "", 1})
}

func TestNamesThatAreTooLong(t *testing.T) {
	full, over := strings.Repeat("n", 12), strings.Repeat("n", 13)
	x := built(t, dirAt(0, "", 0o755), dirAt(1, full, 0o755), fileAt(2, full), linkAt(1, "s", over), linkAt(1, "u", "x/"+over))
	wantBoth(t, x, cat, full, Found{1, full, 2})
	wantBoth(t, x, cat, full+"/"+full, Found{2, full, 3})
	wantBoth(t, x, cat, full+"/x", Found{2, "x", 0})
	wantNeither(t, x, cat, over, api.ENAMETOOLONG)
	wantNeither(t, x, cat, over+"/x", api.ENAMETOOLONG)
	wantNeither(t, x, cat, full+"/"+over, api.ENAMETOOLONG)
	wantNeither(t, x, cat, full+"/"+over+"/x", api.ENAMETOOLONG)
	wantNeither(t, x, cat, full+"/"+full+"/"+over, api.ENOTDIR)
	wantNeither(t, x, cat, "x/"+over, api.ENOENT)
	// Dots are a name like others, where there are more than two.
	wantNeither(t, x, cat, strings.Repeat(".", 13), api.ENAMETOOLONG)
	// Of a link's names, too.
	wantFault(t, x, cat, "s", true, api.ENAMETOOLONG)
	wantFault(t, x, cat, "u", true, api.ENOENT)
	wantNeither(t, x, cat, "s/x", api.ENAMETOOLONG)
}

func TestEntriesThatAreNotThere(t *testing.T) {
	x := chapterTree(t)
	wantBoth(t, x, cat, "x", Found{1, "x", 0})
	wantBoth(t, x, cat, "/x", Found{1, "x", 0})
	wantBoth(t, x, cat, "d/x", Found{2, "x", 0})
	for _, path := range []string{"x/", "x/.", "x/..", "x/y", "d/x/", "d/x/y", "d/d/x"} {
		wantNeither(t, x, allRoot, path, api.ENOENT)
	}
}

func TestLinksAreFollowedWhereNamesAreLeft(t *testing.T) {
	x := built(t, dirAt(0, "", 0o755), dirAt(1, "a", 0o755), dirAt(2, "b", 0o755), fileAt(3, "f"),
		linkAt(1, "l", "a/b"), linkAt(3, "up", "../.."), linkAt(3, "top", "/"), linkAt(3, "abs", "/a"), linkAt(2, "me", "."))
	wantBoth(t, x, cat, "l/f", Found{3, "f", 4})
	wantBoth(t, x, cat, "l/x", Found{3, "x", 0})
	wantBoth(t, x, cat, "l/", Found{3, "", 3})
	wantBoth(t, x, cat, "l/..", Found{2, "", 2})
	wantBoth(t, x, cat, "l/up/a", Found{1, "a", 2})
	wantBoth(t, x, cat, "l/top/a", Found{1, "a", 2})
	wantBoth(t, x, cat, "l/abs/b", Found{2, "b", 3})
	wantBoth(t, x, cat, "a/me/me/b", Found{2, "b", 3})
	wantFound(t, x, cat, "l", true, Found{2, "b", 3})
	wantFound(t, x, cat, "l", false, Found{1, "l", 5})
	wantFound(t, x, cat, "l/up", true, Found{1, "", 1})
	wantFound(t, x, cat, "l/up", false, Found{3, "up", 6})
	wantFound(t, x, cat, "l/top", true, Found{1, "", 1})
	wantFound(t, x, cat, "l/abs", true, Found{1, "a", 2})
	wantFound(t, x, cat, "a/me", true, Found{2, "", 2})
	wantFound(t, x, cat, "a/me", false, Found{2, "me", 9})
}

func TestTargetsWithSlashesAround(t *testing.T) {
	x := built(t, dirAt(0, "", 0o755), dirAt(1, "a", 0o755), fileAt(2, "f"),
		linkAt(1, "dir", "a/"), linkAt(1, "file", "a/f/"), linkAt(2, "dirs", "//a//"), linkAt(1, "new", "a/n/"))
	wantFound(t, x, cat, "dir", true, Found{2, "", 2})
	wantFound(t, x, cat, "a/dirs", true, Found{2, "", 2})
	wantBoth(t, x, cat, "dir/f", Found{2, "f", 3})
	wantBoth(t, x, cat, "a/dirs/f", Found{2, "f", 3})
	wantFault(t, x, cat, "file", true, api.ENOTDIR)
	wantFault(t, x, cat, "new", true, api.ENOENT)
	wantFound(t, x, cat, "file", false, Found{1, "file", 5})
}

func TestLinksThatDangle(t *testing.T) {
	x := built(t, dirAt(0, "", 0o755), dirAt(1, "a", 0o755), linkAt(2, "near", "none"), linkAt(2, "far", "/none"), linkAt(2, "on", "none/x"))
	wantFound(t, x, cat, "a/near", true, Found{2, "none", 0})
	wantFound(t, x, cat, "a/far", true, Found{1, "none", 0})
	wantFound(t, x, cat, "a/near", false, Found{2, "near", 3})
	wantFault(t, x, cat, "a/on", true, api.ENOENT)
	wantNeither(t, x, cat, "a/near/", api.ENOENT)
	wantNeither(t, x, cat, "a/far/x", api.ENOENT)
}

// chain is links l1 to l<n>, each to the one behind it, the last one to `end`; and `self`, to itself.
func chain(t *testing.T, n int) *table.Table {
	t.Helper()
	told := []build.Raw{dirAt(0, "", 0o755), dirAt(1, "d", 0o755), dirAt(1, "e", 0o755), fileAt(3, "end")}
	dirs := []int{2, 3}
	for i := 1; i <= n; i++ {
		parent := dirs[(i-1)/5]
		target := "end"
		if i < n {
			target = "/" + []string{"d", "e"}[i/5] + "/l" + string(rune('1'+i))
		}
		told = append(told, linkAt(parent, "l"+string(rune('0'+i)), target))
	}
	return built(t, append(told, linkAt(1, "self", "self"))...)
}

func TestEightLinksMayBeFollowed(t *testing.T) {
	x := chain(t, 9)
	wantFound(t, x, cat, "d/l2", true, Found{3, "end", 4})
	wantFault(t, x, cat, "d/l1", true, api.ELOOP)
	wantFound(t, x, cat, "d/l1", false, Found{2, "l1", 5})
	// The ninth one stays where it isn't followed.
	few := chain(t, 8)
	wantFound(t, few, cat, "d/l1", true, Found{3, "end", 4})
	wantFault(t, few, cat, "d/l1/", true, api.ENOTDIR)
	wantFault(t, x, cat, "d/l1/", false, api.ELOOP)
	wantFault(t, x, cat, "self", true, api.ELOOP)
	wantFound(t, x, cat, "self", false, Found{1, "self", 14})
	wantNeither(t, x, cat, "self/x", api.ELOOP)
	wantNeither(t, x, cat, "self/", api.ELOOP)
}

func TestLinksCountOverTheWholePath(t *testing.T) {
	x := built(t, dirAt(0, "", 0o755), linkAt(1, "s", "."), fileAt(1, "f"), linkAt(1, "g", "f"))
	wantBoth(t, x, cat, strings.Repeat("s/", 8)+"f", Found{1, "f", 3})
	wantFound(t, x, cat, strings.Repeat("s/", 8)+"s", false, Found{1, "s", 2})
	wantFault(t, x, cat, strings.Repeat("s/", 8)+"s", true, api.ELOOP)
	wantFound(t, x, cat, strings.Repeat("s/", 7)+"g", true, Found{1, "f", 3})
	wantFault(t, x, cat, strings.Repeat("s/", 8)+"g", true, api.ELOOP)
	wantNeither(t, x, cat, strings.Repeat("s/", 9)+"f", api.ELOOP)
	wantNeither(t, x, cat, strings.Repeat("s/", 9), api.ELOOP)
}

func TestLinksThatGrow(t *testing.T) {
	// Each time more names come ahead than were taken.
	x := built(t, dirAt(0, "", 0o755), linkAt(1, "s", strings.Repeat("s/", 31)+"s"))
	wantFault(t, x, allRoot, "s", true, api.ELOOP)
	wantNeither(t, x, allRoot, strings.Repeat("s/", 32), api.ELOOP)
}

func TestTheFirstThatHoldsIsTold(t *testing.T) {
	over := strings.Repeat("n", 13)
	x := built(t, dirAt(0, "", 0o755), dirAt(1, "shut", 0o700), linkAt(1, "self", "self"), fileAt(1, "f"), linkAt(2, "in", "in"))
	wantNeither(t, x, cat, "shut/"+over, api.EACCES)
	wantNeither(t, x, cat, "shut/x/y", api.EACCES)
	wantNeither(t, x, cat, "shut/in/y", api.EACCES)
	wantNeither(t, x, cat, "f/"+over, api.ENOTDIR)
	wantNeither(t, x, cat, over+"/f/x", api.ENAMETOOLONG)
	wantNeither(t, x, cat, "self/"+over, api.ELOOP)
	wantNeither(t, x, cat, "x/self/x", api.ENOENT)
	// A File whose mode shuts it is no directory all the same.
	if err := x.Put(4, node.Node{Kind: api.File}); err != api.OK {
		t.Fatal(err)
	}
	wantNeither(t, x, cat, "f/x", api.ENOTDIR)
}

// pathsOf is all paths of so many pieces at most, with and without slashes around.
func pathsOf(pieces []string, most int) []string {
	all := []string{""}
	last := []string{""}
	for range most {
		var next []string
		for _, path := range last {
			for _, piece := range pieces {
				next = append(next, path+"/"+piece)
			}
		}
		last = next
		all = append(all, last...)
	}
	for _, path := range slices.Clone(all) {
		all = append(all, strings.TrimPrefix(path, "/"), path+"/")
	}
	return all
}

func TestAllShortPaths(t *testing.T) {
	x := built(t, dirAt(0, "", 0o755), dirAt(1, "a", 0o751), dirAt(2, "b", 0o710), fileAt(3, "a"),
		linkAt(1, "b", "a/b"), linkAt(2, "a", "/b/"), linkAt(3, "c", "../c"), linkAt(2, "c", "../d"), linkAt(1, "d", "a/c"), linkAt(3, "d", "/"))
	for _, path := range pathsOf([]string{"a", "b", "c", "d", ".", "..", "e"}, 4) {
		for _, c := range everyone {
			holdAgainst(t, x, c, path, false)
			holdAgainst(t, x, c, path, true)
		}
	}
}

// P11.3

func TestNilTable(t *testing.T) {
	for _, path := range []string{"", "/", "a", ".", "..", "\x00", strings.Repeat("a", 65), strings.Repeat("a", 13)} {
		for _, follow := range []bool{false, true} {
			_, want := Resolve(table.New(1), allRoot, path, follow)
			wantFault(t, nil, allRoot, path, follow, want)
		}
	}
	for i := range 3 {
		if Can(nil, allRoot, i, 0) {
			t.Errorf("Can of nil, %d", i)
		}
	}
}

func TestNothingIsChanged(t *testing.T) {
	x := chapterTree(t)
	before := x.Clone()
	groups := []int{3, 4}
	who := api.Cred{Uid: 2, Gid: 2, Groups: groups}
	for _, path := range pathsOf([]string{"d", "f", "s", "..", "x"}, 3) {
		first, err := Resolve(x, who, path, true)
		again, errAgain := Resolve(x, who, path, true)
		if first != again || err != errAgain {
			t.Errorf("Resolve of %q answers %v, %v, then %v, %v", path, first, err, again, errAgain)
		}
		Can(x, who, 2, 7)
	}
	if !x.Same(before) || !slices.Equal(groups, []int{3, 4}) {
		t.Error("a path that is resolved changes something")
	}
}

// Many tables and paths, by chance of one seed.

var pieces = []string{"a", "b", "c", "d", ".", "..", "", "a", "b", "nnnnnnnnnnnn", "nnnnnnnnnnnnn"}

func somePath(r *rand.Rand, most int) string {
	var names []string
	for range 1 + r.Intn(most) {
		names = append(names, pieces[r.Intn(len(pieces))])
	}
	path := strings.Join(names, "/")
	if r.Intn(3) == 0 {
		path = "/" + path
	}
	if r.Intn(6) == 0 {
		path += "/"
	}
	return path[:min(len(path), 64)]
}

func someMode(r *rand.Rand) int {
	if r.Intn(3) > 0 {
		return 0o755
	}
	return r.Intn(4096)
}

// someTree is a table that is Right, of nodes that were told by chance.
func someTree(r *rand.Rand) *table.Table {
	told := []build.Raw{{Kind: api.Dir, Mode: someMode(r), Uid: r.Intn(3), Gid: r.Intn(4)}}
	x, _, _ := build.Build(api.CapMax, told)
	for range r.Intn(40) {
		raw := build.Raw{Kind: api.Dir, Mode: someMode(r), Uid: r.Intn(3), Gid: r.Intn(4), Parent: 1 + r.Intn(len(told)), Name: string(rune('a' + r.Intn(4)))}
		switch r.Intn(5) {
		case 0:
			raw.Kind = api.File
		case 1, 2:
			raw.Kind, raw.Mode, raw.Target = api.Link, 511, somePath(r, 3)
		}
		more, _, err := build.Build(api.CapMax, append(slices.Clone(told), raw))
		if err == api.OK {
			x, told = more, append(told, raw)
		}
	}
	return x
}

// someTable is a table whose entries lead anywhere.
func someTable(r *rand.Rand) *table.Table {
	x := table.New(1 + r.Intn(8))
	for range 1 + r.Intn(8) {
		n := node.Node{Kind: 1 + r.Intn(3), Mode: someMode(r), Uid: r.Intn(3), Gid: r.Intn(4)}
		switch n.Kind {
		case api.Dir:
			for _, name := range []string{"a", "b", "c", "nnnnnnnnnnnn"} {
				if r.Intn(3) > 0 {
					n.Ents = append(n.Ents, node.Ent{Name: name, Node: 1 + r.Intn(9)})
				}
			}
		case api.Link:
			n.Mode, n.Target = 511, somePath(r, 3)
		}
		x.Add(n)
	}
	if r.Intn(8) == 0 {
		x.Drop(1 + r.Intn(3))
	}
	return x
}

func TestManyPaths(t *testing.T) {
	r := rand.New(rand.NewSource(11))
	told := map[api.Errno]int{}
	for range 3000 {
		x := someTree(r)
		if r.Intn(2) == 0 {
			x = someTable(r)
		}
		for range 12 {
			_, err := holdAgainst(t, x, everyone[r.Intn(len(everyone))], somePath(r, 9), r.Intn(2) == 0)
			told[err]++
		}
	}
	for _, err := range []api.Errno{api.OK, api.ENOENT, api.EACCES, api.ENOTDIR, api.ENAMETOOLONG, api.ELOOP} {
		if told[err] < 20 {
			t.Errorf("%v came up %d times alone", err, told[err])
		}
	}
}

// P11.4

// throughSearched tells whether who asks may search a directory and all above it, from node 1 on.
func throughSearched(x *table.Table, c api.Cred, dir int) bool {
	for dir != 1 {
		if !Can(x, c, dir, api.X) || dir == 0 {
			return false
		}
		dir = x.Parent(dir)
	}
	return Can(x, c, 1, api.X)
}

func TestWhatIsFoundWasComeToThroughSearched(t *testing.T) {
	r := rand.New(rand.NewSource(114))
	far := 0
	for range 3000 {
		x := someTree(r)
		for range 12 {
			who, path := everyone[r.Intn(len(everyone))], somePath(r, 6)
			f, err := Resolve(x, who, path, r.Intn(2) == 0)
			if err != api.OK {
				continue
			}
			if f.Name == "" && (f.Node != f.Dir || f.Dir < 1) {
				t.Errorf("Resolve of %q answers %v", path, f)
			}
			if n, is := x.Get(f.Dir); !is || f.Name != "" && (n.Kind != api.Dir || node.Find(n, f.Name) != f.Node) {
				t.Errorf("Resolve of %q answers %v, which isn't so", path, f)
			}
			dir := f.Dir
			if dir != 1 {
				far++
			} else if f.Name == "" {
				continue // Nothing need be searched for node 1 itself.
			}
			if !throughSearched(x, who, dir) {
				t.Errorf("Resolve(of %d, %q) answers %v, which isn't to be come to, of %v", who.Uid, path, f, build.Tell(x))
			}
		}
	}
	if far < 500 {
		t.Errorf("just %d were in another directory than node 1", far)
	}
}
