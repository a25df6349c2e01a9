package sys

import (
	"bytes"
	"math"
	"math/rand"
	"slices"
	"strings"
	"testing"

	"gaoler/api"
	"gaoler/attr"
	"gaoler/build"
	"gaoler/files"
	"gaoler/look"
	"gaoler/node"
	"gaoler/plant"
	"gaoler/prune"
	"gaoler/table"
)

var (
	allRoot  = api.Cred{}
	ann      = api.Cred{Uid: 1, Gid: 1, Groups: []int{4}}
	bob      = api.Cred{Uid: 2, Gid: 2, Groups: []int{3}}
	cat      = api.Cred{Uid: 9, Gid: 9}
	noOne    = api.Cred{Uid: -1, Gid: -1, Groups: []int{-2}}
	everyone = []api.Cred{allRoot, ann, bob, cat, noOne}
)

// Processes of a system of everyone.
const (
	roots = iota
	anns
	bobs
	cats
	noOnes
)

// Nodes that are told are ann's; all of them are of group 3.

func dirAt(parent int, name string, mode int) build.Raw {
	return build.Raw{Kind: api.Dir, Mode: mode, Uid: 1, Gid: 3, Parent: parent, Name: name}
}

func fileAt(parent int, name string, mode int, data string) build.Raw {
	return build.Raw{Kind: api.File, Mode: mode, Uid: 1, Gid: 3, Parent: parent, Name: name, Data: []byte(data)}
}

func linkAt(parent int, name, target string) build.Raw {
	return build.Raw{Kind: api.Link, Mode: 511, Uid: 1, Gid: 3, Parent: parent, Name: name, Target: target}
}

func againAt(parent int, name string, id int) build.Raw {
	return build.Raw{Kind: build.Again, Parent: parent, Name: name, Node: id}
}

func built(t *testing.T, room int, l ...build.Raw) *table.Table {
	t.Helper()
	x, place, err := build.Build(room, l)
	if err != api.OK {
		t.Fatalf("what is told is wrong at %d: %v", place, err)
	}
	return x
}

// sample has nodes of each kind, and directories that are shut, have Sticky, or are open to all.
func sample(t *testing.T) *table.Table {
	t.Helper()
	return built(t, 20,
		dirAt(0, "", 0o755),             // 1
		dirAt(1, "d", 0o755),            // 2
		fileAt(2, "f", 0o6755, "hello"), // 3
		linkAt(1, "s", "d/f"),           // 4
		linkAt(1, "dir", "d"),           // 5
		linkAt(1, "self", "self"),       // 6
		dirAt(1, "shut", 0o700),         // 7
		fileAt(7, "f", 0o777, "shut"),   // 8
		dirAt(1, "tmp", 0o1777),         // 9
		fileAt(9, "x", 0o666, "tmp"),    // 10
		dirAt(9, "e", 0o777),            // 11
		dirAt(1, "all", 0o3777),         // 12
		againAt(9, "two", 3),            // one more entry of 3
	)
}

func get(t *testing.T, x *table.Table, id int) node.Node {
	t.Helper()
	n, is := x.Get(id)
	if !is {
		t.Fatalf("there is no node %d", id)
	}
	return n
}

// all is a system of the sample, in which a process is of each one of everyone.
func all(t *testing.T) *System {
	t.Helper()
	return New(sample(t), 0o022, everyone...)
}

// state is all that is told of a system.
type state struct {
	x      *table.Table
	umasks []int
	fds    []Fd
	open   []int
}

// pids and places are numbers of all processes and places that the tests have, and of some that are none.
var (
	pids   = []int{-1, 0, 1, 2, 3, 4, 5, 6, math.MinInt, math.MaxInt}
	places = []int{-1, 0, 1, 2, 3, math.MinInt, math.MaxInt}
)

func stateOf(s *System) state {
	st := state{x: s.Table(), open: s.Open()}
	for _, pid := range pids {
		st.umasks = append(st.umasks, s.Umask(pid))
		for _, i := range places {
			st.fds = append(st.fds, s.Fd(pid, i))
		}
	}
	return st
}

func (a state) same(b state) bool {
	return a.x.Same(b.x) && a.x.Room() == b.x.Room() &&
		slices.Equal(a.umasks, b.umasks) && slices.Equal(a.fds, b.fds) && slices.Equal(a.open, b.open)
}

func sameResult(a, b Result) bool {
	return a.Err == b.Err && a.N == b.N && a.Stat == b.Stat && a.Text == b.Text &&
		slices.Equal(a.Names, b.Names) && bytes.Equal(a.Data, b.Data)
}

// done is what is told of a call that is to tell no error.
func done(t *testing.T, s *System, pid int, c Call) Result {
	t.Helper()
	r := s.Do(pid, c)
	if r.Err != api.OK {
		t.Errorf("%v, by process %d: %v", c, pid, r.Err)
	}
	return r
}

// wantTold asks for a call that tells just that, and leaves what nodes there are alone.
func wantTold(t *testing.T, s *System, pid int, c Call, want Result) {
	t.Helper()
	before := s.Table()
	if r := s.Do(pid, c); !sameResult(r, want) {
		t.Errorf("%v, by process %d: %v, want %v", c, pid, r, want)
	}
	if !s.Table().Same(before) {
		t.Errorf("%v, by process %d: %v, of %v", c, pid, build.Tell(s.Table()), build.Tell(before))
	}
}

// wantFault asks for a call that tells just an error, and changes nothing.
func wantFault(t *testing.T, s *System, pid int, c Call, want api.Errno) {
	t.Helper()
	before := stateOf(s)
	if r := s.Do(pid, c); !sameResult(r, Result{Err: want}) {
		t.Errorf("%v, by process %d: %v, want %v", c, pid, r, want)
	}
	if !stateOf(s).same(before) {
		t.Errorf("%v, by process %d: a call that fails changes something", c, pid)
	}
}

// opened is the place of a file that is opened.
func opened(t *testing.T, s *System, pid int, path string, flags int) int {
	t.Helper()
	return done(t, s, pid, Call{Kind: Open, Path: path, A: flags, B: 0o666}).N
}

func wantFd(t *testing.T, s *System, pid, i int, want Fd) {
	t.Helper()
	if f := s.Fd(pid, i); f != want {
		t.Errorf("place %d of process %d: %v, want %v", i, pid, f, want)
	}
}

func wantOpen(t *testing.T, s *System, want ...int) {
	t.Helper()
	if l := s.Open(); !slices.Equal(l, want) {
		t.Errorf("%v are open, want %v", l, want)
	}
	if x := s.Table(); !x.Right(want...) {
		t.Errorf("a tree doesn't stay one: %v", build.Tell(x))
	}
}

// has tells whether there is a node.
func has(s *System, id int) bool {
	_, is := s.Table().Get(id)
	return is
}

func TestChapterExamples(t *testing.T) {
	s := all(t)
	i := opened(t, s, anns, "tmp/x", files.Read)
	done(t, s, anns, Call{Kind: Unlink, Path: "tmp/x"})
	wantFault(t, s, anns, Call{Kind: Stat, Path: "tmp/x"}, api.ENOENT)
	wantTold(t, s, anns, Call{Kind: Read, A: i, B: 48}, Result{Data: []byte("tmp")})
	if !has(s, 10) {
		t.Error("what is open is gone")
	}
	done(t, s, anns, Call{Kind: Close, A: i})
	if has(s, 10) {
		t.Error("what isn't open any more stays")
	}
	// Its number is that of what is made next.
	done(t, s, anns, Call{Kind: Mkdir, Path: "tmp/new", A: 0o777})
	if !has(s, 10) {
		t.Error("its number isn't free")
	}
}

// P17.1

func TestNumbersOfKinds(t *testing.T) {
	kinds := []int{
		None, Stat, Lstat, Readlink, List, Chmod, Chown, Lchown, Mkdir, Symlink,
		Unlink, Rmdir, Rename, Open, Read, Write, Close, Umask, Exit,
	}
	for want, kind := range kinds {
		if kind != want {
			t.Errorf("a kind is %d, want %d", kind, want)
		}
	}
	if len(kinds) != 19 {
		t.Error(len(kinds))
	}
}

func TestNew(t *testing.T) {
	x := sample(t)
	before := x.Clone()
	s := New(x, 0o027, everyone...)
	if got := s.Table(); !got.Same(before) || got.Room() != 20 {
		t.Error(build.Tell(got), got.Room())
	}
	for pid := range everyone {
		if s.Umask(pid) != 0o027 {
			t.Errorf("the umask of %d is %o", pid, s.Umask(pid))
		}
		for i := range api.FdMax {
			wantFd(t, s, pid, i, Fd{})
		}
	}
	wantOpen(t, s)
	// What is done to the table that was handed in does nothing to the system, nor the other way.
	x.Drop(8)
	if !s.Table().Same(before) {
		t.Error("the table that was handed in is kept")
	}
	x = before.Clone()
	s = New(x, 0o022, everyone...)
	done(t, s, roots, Call{Kind: Unlink, Path: "shut/f"})
	if !x.Same(before) || s.Table().Same(before) {
		t.Error("the table that was handed in is changed")
	}
}

func TestNewOfNoTable(t *testing.T) {
	for _, umask := range []int{0, 0o777, -1} {
		s := New(nil, umask, allRoot, ann)
		x := s.Table()
		if x == nil || x.Used() != 0 || x.Room() != 1 || s.Umask(1) != umask&0o777 {
			t.Error(x, s.Umask(1))
		}
		if len(s.Open()) != 0 {
			t.Error(s.Open())
		}
		for pid := range 2 {
			for _, c := range []Call{
				{Kind: Stat, Path: "/"}, {Kind: Mkdir, Path: "/d"}, {Kind: Open, Path: "f", A: files.Write | files.Creat},
			} {
				wantFault(t, s, pid, c, api.ENOENT)
			}
		}
	}
}

func TestNewWithoutProcesses(t *testing.T) {
	for _, s := range []*System{New(sample(t), 0o022), New(sample(t), 0o022, nil...), New(nil, 0o022)} {
		for _, pid := range pids {
			wantFault(t, s, pid, Call{Kind: Stat, Path: "/"}, api.EINVAL)
			wantFd(t, s, pid, 0, Fd{})
			if s.Umask(pid) != 0 {
				t.Errorf("the umask of %d is %o", pid, s.Umask(pid))
			}
		}
		if len(s.Open()) != 0 {
			t.Error(s.Open())
		}
	}
}

func TestUmasks(t *testing.T) {
	for _, x := range []struct{ told, want int }{
		{0, 0}, {0o022, 0o022}, {0o777, 0o777}, {0o1000, 0}, {0o1022, 0o022}, {0o7777, 0o777}, {4096, 0}, {4096 + 7, 7},
		{-1, 0o777}, {-2, 0o776}, {-4096, 0}, {-4095, 1}, {math.MaxInt, 0o777}, {math.MinInt, 0},
	} {
		s := New(sample(t), x.told, ann, bob)
		if s.Umask(0) != x.want || s.Umask(1) != x.want {
			t.Errorf("%d: %o and %o, want %o", x.told, s.Umask(0), s.Umask(1), x.want)
		}
		s = New(sample(t), 0o123, ann, bob)
		wantTold(t, s, 1, Call{Kind: Umask, A: x.told}, Result{N: 0o123})
		if s.Umask(0) != 0o123 || s.Umask(1) != x.want {
			t.Errorf("%d: %o and %o, want %o", x.told, s.Umask(0), s.Umask(1), x.want)
		}
		wantTold(t, s, 1, Call{Kind: Umask, A: 0o077}, Result{N: x.want})
	}
}

// Processes are numbered as they are handed in, and ask as who they are.
func TestWhoAsks(t *testing.T) {
	for n := range 40 {
		s := New(sample(t), 0, slices.Repeat([]api.Cred{bob}, n)...)
		for _, pid := range []int{n, n + 1, -1} {
			wantFault(t, s, pid, Call{Kind: Stat, Path: "/"}, api.EINVAL)
		}
		for pid := range n {
			done(t, s, pid, Call{Kind: Stat, Path: "/"})
		}
	}
	s := all(t)
	for pid, c := range everyone {
		path := "all/" + string(rune('a'+pid))
		r := s.Do(pid, Call{Kind: Mkdir, Path: path, A: 0o777})
		if c.Uid < 0 {
			wantFault(t, s, pid, Call{Kind: Mkdir, Path: path, A: 0o777}, api.EINVAL)
			continue
		}
		st := done(t, s, pid, Call{Kind: Stat, Path: path}).Stat
		if r.Err != api.OK || st.Uid != c.Uid {
			t.Errorf("by %d: %v, %v", c.Uid, r, st)
		}
	}
}

// Two of who asks may be one.
func TestOneOfTwoProcesses(t *testing.T) {
	s := New(sample(t), 0o022, ann, ann)
	i := opened(t, s, 0, "d/f", files.Read)
	wantFault(t, s, 1, Call{Kind: Read, A: i, B: 1}, api.EBADF)
	wantFault(t, s, 1, Call{Kind: Close, A: i}, api.EBADF)
	done(t, s, 1, Call{Kind: Umask, A: 0})
	if s.Umask(0) != 0o022 || s.Umask(1) != 0 {
		t.Error(s.Umask(0), s.Umask(1))
	}
}

func TestGroupsAreNotKept(t *testing.T) {
	groups := []int{7, 3}
	creds := []api.Cred{{Uid: 5, Gid: 5, Groups: groups}}
	s := New(built(t, 9, dirAt(0, "", 0o755), fileAt(1, "f", 0o640, "hi")), 0o022, creds...)
	groups[1], creds[0].Uid = 8, 0
	if i := opened(t, s, 0, "f", files.Read); i != 0 {
		t.Error(i)
	}
	wantFault(t, s, 0, Call{Kind: Open, Path: "f", A: files.Write}, api.EACCES)
	if groups[0] != 7 || groups[1] != 8 {
		t.Error(groups)
	}
}

func TestTableIsApart(t *testing.T) {
	s := all(t)
	a, before := s.Table(), s.Table()
	a.Drop(8)
	n := get(t, a, 3)
	n.Data = []byte("other")
	if err := a.Put(3, n); err != api.OK {
		t.Error(err)
	}
	if !s.Table().Same(before) {
		t.Error("who changes the table that is told changes the system")
	}
	b := s.Table()
	done(t, s, roots, Call{Kind: Chmod, Path: "d", A: 0})
	if !b.Same(before) || s.Table().Same(before) {
		t.Error("a table that is told isn't as it was")
	}
}

func TestOpenNodes(t *testing.T) {
	s := all(t)
	wantOpen(t, s)
	opened(t, s, bobs, "tmp/x", files.Read)
	wantOpen(t, s, 10)
	opened(t, s, roots, "d/f", files.Write)
	wantOpen(t, s, 3, 10)
	opened(t, s, bobs, "s", files.Read)
	opened(t, s, bobs, "tmp/x", files.Write)
	opened(t, s, anns, "shut/f", files.Read)
	wantOpen(t, s, 3, 8, 10, 3, 10)
	done(t, s, bobs, Call{Kind: Close, A: 1})
	wantOpen(t, s, 3, 8, 10, 10)
	opened(t, s, bobs, "tmp/two", files.Read)
	wantOpen(t, s, 3, 8, 10, 3, 10)
	done(t, s, bobs, Call{Kind: Close, A: 0})
	wantOpen(t, s, 3, 8, 3, 10)
	// Who changes the list that is told changes nothing else.
	l := s.Open()
	clear(l)
	wantOpen(t, s, 3, 8, 3, 10)
}

func TestFdOfNone(t *testing.T) {
	s := all(t)
	for pid := range everyone {
		done(t, s, roots, Call{Kind: Chmod, Path: "tmp/x", A: 0o666})
		for range api.FdMax {
			opened(t, s, pid, "tmp/x", files.Read|files.Write)
		}
	}
	for _, pid := range pids {
		for _, i := range places {
			want := Fd{}
			if pid >= 0 && pid < len(everyone) && i >= 0 && i < 3 {
				want = Fd{Node: 10, Read: true, Write: true}
			}
			wantFd(t, s, pid, i, want)
		}
	}
}

// P17.2

// somePaths is paths of all sorts.
var somePaths = []string{
	"/", "d", "d/f", "s", "dir", "dir/f", "self", "shut", "shut/f", "tmp/x", "tmp/e", "tmp/two", "all/x", "d/new", "new", "tmp/e/new",
	"", "x/y", "d/f/", ".", "..", "tmp/.", "\x00", strings.Repeat("n", 13), strings.Repeat("/", 65),
}

func TestNoProcess(t *testing.T) {
	s := all(t)
	for kind := -1; kind <= 20; kind++ {
		for _, pid := range []int{-1, -2, 5, 6, 1 << 32, math.MinInt, math.MaxInt} {
			for _, path := range somePaths {
				wantFault(t, s, pid, Call{Kind: kind, Path: path, Other: "new", A: 1, B: 1}, api.EINVAL)
			}
		}
	}
}

func TestNoKind(t *testing.T) {
	s := all(t)
	opened(t, s, anns, "d/f", files.Read|files.Write)
	for _, kind := range []int{0, -1, 19, 20, 1<<32 + 1, -13, math.MinInt, math.MaxInt} {
		for pid := range everyone {
			for _, path := range somePaths {
				wantFault(t, s, pid, Call{Kind: kind, Path: path, Other: "new", B: 1, Data: []byte("x")}, api.EINVAL)
			}
		}
	}
	if r := s.Do(anns, Call{}); r.Err != api.EINVAL {
		t.Error(r)
	}
}

// ofLayers is what the layers' functions tell of a call that no place of a process plays a part in.
func ofLayers(x *table.Table, c api.Cred, umask int, k Call, open []int) Result {
	r := Result{}
	switch k.Kind {
	case Stat:
		r.Stat, r.Err = look.Stat(x, c, k.Path)
	case Lstat:
		r.Stat, r.Err = look.Lstat(x, c, k.Path)
	case Readlink:
		r.Text, r.Err = look.Readlink(x, c, k.Path)
	case List:
		r.Names, r.Err = look.List(x, c, k.Path)
	case Chmod:
		r.Err = attr.Chmod(x, c, k.Path, k.A)
	case Chown:
		r.Err = attr.Chown(x, c, k.Path, k.A, k.B, true)
	case Lchown:
		r.Err = attr.Chown(x, c, k.Path, k.A, k.B, false)
	case Mkdir:
		r.Err = plant.Mkdir(x, c, umask, k.Path, k.A)
	case Symlink:
		r.Err = plant.Symlink(x, c, k.Other, k.Path)
	case Unlink:
		r.Err = prune.Unlink(x, c, k.Path, open...)
	case Rmdir:
		r.Err = prune.Rmdir(x, c, k.Path)
	case Rename:
		r.Err = prune.Rename(x, c, k.Path, k.Other, open...)
	}
	return r
}

// wantOfLayers asks for a call that tells, and does, what the layers' functions do.
func wantOfLayers(t *testing.T, x *table.Table, umask, pid int, k Call) Result {
	t.Helper()
	s, after := New(x, umask, everyone...), x.Clone()
	want := ofLayers(after, everyone[pid], umask&511, k, nil)
	r := s.Do(pid, k)
	if !sameResult(r, want) {
		t.Errorf("%v, by process %d: %v, want %v", k, pid, r, want)
	}
	if !s.Table().Same(after) {
		t.Errorf("%v, by process %d: %v, want %v", k, pid, build.Tell(s.Table()), build.Tell(after))
	}
	if r.Err != api.OK && (!sameResult(r, Result{Err: r.Err}) || !s.Table().Same(x)) {
		t.Errorf("%v, by process %d: %v beside an error", k, pid, r)
	}
	wantOpen(t, s)
	return r
}

func TestKindsOfPaths(t *testing.T) {
	x := sample(t)
	for kind := Stat; kind <= Rename; kind++ {
		good := 0
		for pid := range everyone {
			for _, path := range somePaths {
				for _, other := range []string{"new", "tmp/e", "tmp/x", "all/x", "", "/", "\x00"} {
					for _, n := range [][2]int{{0, 0}, {0o4777, 3}, {1, -1}, {-1, 4}, {-1, -1}, {4096, 65536}, {math.MinInt, math.MaxInt}} {
						if wantOfLayers(t, x, 0o027, pid, Call{Kind: kind, Path: path, Other: other, A: n[0], B: n[1], Data: []byte("data")}).Err == api.OK {
							good++
						}
					}
				}
			}
		}
		if good < 50 {
			t.Errorf("kind %d went well %d times alone", kind, good)
		}
	}
}

func TestWhatIsToldOfPaths(t *testing.T) {
	s := all(t)
	f := api.Stat{Node: 3, Kind: api.File, Mode: 0o6755, Uid: 1, Gid: 3, Links: 2, Size: 5}
	link := api.Stat{Node: 4, Kind: api.Link, Mode: 0o777, Uid: 1, Gid: 3, Links: 1, Size: 3}
	for pid := range everyone {
		for _, path := range []string{"d/f", "s", "dir/f", "tmp/two"} {
			wantTold(t, s, pid, Call{Kind: Stat, Path: path}, Result{Stat: f})
		}
		wantTold(t, s, pid, Call{Kind: Lstat, Path: "s"}, Result{Stat: link})
		wantTold(t, s, pid, Call{Kind: Lstat, Path: "d/f"}, Result{Stat: f})
		wantTold(t, s, pid, Call{Kind: Readlink, Path: "s"}, Result{Text: "d/f"})
		wantTold(t, s, pid, Call{Kind: List, Path: "dir"}, Result{Names: []string{"f"}})
		wantTold(t, s, pid, Call{Kind: List, Path: "tmp/e"}, Result{})
		wantTold(t, s, pid, Call{Kind: List, Path: "tmp"}, Result{Names: []string{"e", "two", "x"}})
		wantFault(t, s, pid, Call{Kind: Readlink, Path: "d"}, api.EINVAL)
		wantFault(t, s, pid, Call{Kind: Stat, Path: "x"}, api.ENOENT)
		wantFault(t, s, pid, Call{Kind: Lstat, Path: ""}, api.ENOENT)
		wantFault(t, s, pid, Call{Kind: Stat, Path: "self"}, api.ELOOP)
		wantFault(t, s, pid, Call{Kind: List, Path: "d/f"}, api.ENOTDIR)
	}
	wantTold(t, s, anns, Call{Kind: List, Path: "shut"}, Result{Names: []string{"f"}})
	wantFault(t, s, bobs, Call{Kind: List, Path: "shut"}, api.EACCES)
	wantFault(t, s, bobs, Call{Kind: Stat, Path: "shut/f"}, api.EACCES)
	// Who changes what is told changes nothing else.
	l := done(t, s, roots, Call{Kind: List, Path: "tmp"}).Names
	clear(l)
	wantTold(t, s, roots, Call{Kind: List, Path: "tmp"}, Result{Names: []string{"e", "two", "x"}})
}

// What a kind of call doesn't ask for plays no part in it.
func TestWhatIsNotAskedFor(t *testing.T) {
	x := sample(t)
	for _, k := range []Call{
		{Kind: Stat, Path: "s"}, {Kind: Lstat, Path: "s"}, {Kind: Readlink, Path: "s"}, {Kind: List, Path: "d"},
		{Kind: Chmod, Path: "s", A: 0o600}, {Kind: Chown, Path: "s", A: 1, B: 3}, {Kind: Lchown, Path: "s", A: 1, B: 3},
		{Kind: Mkdir, Path: "new", A: 0o777}, {Kind: Symlink, Path: "new", Other: "s"}, {Kind: Unlink, Path: "tmp/x"},
		{Kind: Rmdir, Path: "tmp/e"}, {Kind: Rename, Path: "tmp/x", Other: "new"}, {Kind: Umask, A: 0o077}, {Kind: Exit},
		{Kind: Open, Path: "new", A: files.Write | files.Creat, B: 0o600}, {Kind: Read, B: 3}, {Kind: Write, Data: []byte("x")}, {Kind: Close},
	} {
		more := k
		switch k.Kind {
		case Umask, Exit, Read, Write, Close:
			more.Path = "\x00"
		}
		if k.Kind != Symlink && k.Kind != Rename {
			more.Other = "\x00"
		}
		switch k.Kind {
		case Stat, Lstat, Readlink, List, Symlink, Unlink, Rmdir, Rename, Exit:
			more.A, more.B = -7, 4097
		case Chmod, Mkdir, Umask, Write, Close:
			more.B = -7
		}
		if k.Kind != Write {
			more.Data = make([]byte, 99)
		}
		a, b := New(x, 0o022, ann), New(x, 0o022, ann)
		for _, s := range []*System{a, b} {
			opened(t, s, 0, "d/f", files.Read|files.Write)
		}
		was, is := done(t, a, 0, k), done(t, b, 0, more)
		if !sameResult(was, is) || !stateOf(a).same(stateOf(b)) {
			t.Errorf("%v: %v, %v: %v", k, was, more, is)
		}
	}
}

func TestChangesOfPaths(t *testing.T) {
	s := all(t)
	told := func(pid int, c Call) { t.Helper(); wantDone(t, s, pid, c) }
	told(anns, Call{Kind: Chmod, Path: "s", A: 0o7777})
	if n := get(t, s.Table(), 3); n.Mode != 0o5777 {
		// Ann isn't of the file's group.
		t.Errorf("mode %o", n.Mode)
	}
	wantFault(t, s, bobs, Call{Kind: Chmod, Path: "s", A: 0o777}, api.EPERM)
	wantFault(t, s, anns, Call{Kind: Chmod, Path: "s", A: 0o10000}, api.EINVAL)
	told(roots, Call{Kind: Chown, Path: "s", A: 7, B: -1})
	told(roots, Call{Kind: Lchown, Path: "s", A: -1, B: 8})
	told(anns, Call{Kind: Lchown, Path: "s", A: 1, B: 4})
	f, link := get(t, s.Table(), 3), get(t, s.Table(), 4)
	if f.Uid != 7 || f.Gid != 3 || link.Uid != 1 || link.Gid != 4 {
		t.Error(f, link)
	}
	wantFault(t, s, anns, Call{Kind: Chown, Path: "s", A: 1, B: 1}, api.EPERM)
	told(bobs, Call{Kind: Mkdir, Path: "all/m", A: 0o777})
	if n := get(t, s.Table(), 13); n.Kind != api.Dir || n.Mode != 0o2755 || n.Uid != 2 || n.Gid != 3 {
		t.Error(n)
	}
	told(bobs, Call{Kind: Symlink, Path: "all/l", Other: "m"})
	if n := get(t, s.Table(), 14); n.Kind != api.Link || n.Target != "m" || n.Uid != 2 {
		t.Error(n)
	}
	wantTold(t, s, cats, Call{Kind: Readlink, Path: "all/l"}, Result{Text: "m"})
	wantFault(t, s, cats, Call{Kind: Rmdir, Path: "all/m"}, api.EPERM)
	wantFault(t, s, bobs, Call{Kind: Rmdir, Path: "all/l"}, api.ENOTDIR)
	wantFault(t, s, bobs, Call{Kind: Unlink, Path: "all/m"}, api.EISDIR)
	told(bobs, Call{Kind: Rename, Path: "all/m", Other: "tmp/m"})
	wantFault(t, s, bobs, Call{Kind: Stat, Path: "all/m"}, api.ENOENT)
	told(bobs, Call{Kind: Rmdir, Path: "tmp/m"})
	told(bobs, Call{Kind: Unlink, Path: "all/l"})
	if has(s, 13) || has(s, 14) || s.Table().Used() != 12 {
		t.Error(build.Tell(s.Table()))
	}
}

// wantDone asks for a call that tells nothing.
func wantDone(t *testing.T, s *System, pid int, c Call) {
	t.Helper()
	if r := s.Do(pid, c); !sameResult(r, Result{}) {
		t.Errorf("%v, by process %d: %v", c, pid, r)
	}
}

// What is made lacks what the umask of who makes it has, and no other one's.
func TestUmaskOfWhatIsMade(t *testing.T) {
	for umask := 0; umask < 512; umask += 7 {
		s := New(sample(t), 0o022, allRoot, ann, bob)
		wantTold(t, s, anns, Call{Kind: Umask, A: umask | 0o7000}, Result{N: 0o022})
		if s.Umask(roots) != 0o022 || s.Umask(anns) != umask || s.Umask(bobs) != 0o022 {
			t.Error(s.Umask(roots), s.Umask(anns), s.Umask(bobs))
		}
		wantDone(t, s, anns, Call{Kind: Mkdir, Path: "tmp/ann", A: 0o777})
		wantDone(t, s, bobs, Call{Kind: Mkdir, Path: "tmp/bob", A: 0o777})
		i := opened(t, s, anns, "annf", files.Write|files.Creat)
		j := opened(t, s, bobs, "tmp/bobf", files.Write|files.Creat)
		x := s.Table()
		if i != 0 || j != 0 || get(t, x, 13).Mode != 0o777&^umask || get(t, x, 14).Mode != 0o755 {
			t.Errorf("%o: %d, %d, %v", umask, i, j, build.Tell(x))
		}
		if get(t, x, 15).Mode != 0o666&^umask || get(t, x, 16).Mode != 0o644 {
			t.Errorf("%o: %v", umask, build.Tell(x))
		}
		// A mode that is told is none that is made.
		wantDone(t, s, anns, Call{Kind: Chmod, Path: "annf", A: 0o777})
		if get(t, s.Table(), 15).Mode != 0o777 {
			t.Error(get(t, s.Table(), 15))
		}
	}
}

// What is open stays, whoever has it open, and however its last entry goes.
func TestOpenNodesStay(t *testing.T) {
	for _, k := range []Call{{Kind: Unlink, Path: "tmp/x"}, {Kind: Rename, Path: "tmp/y", Other: "tmp/x"}} {
		for pid := range everyone {
			s := all(t)
			done(t, s, anns, Call{Kind: Symlink, Path: "tmp/y", Other: "z"})
			wantDone(t, s, anns, k)
			if has(s, 10) {
				t.Errorf("%v: what isn't open stays", k)
			}
			s = all(t)
			done(t, s, anns, Call{Kind: Symlink, Path: "tmp/y", Other: "z"})
			i := opened(t, s, pid, "tmp/x", files.Read)
			wantDone(t, s, anns, k)
			wantOpen(t, s, 10)
			wantTold(t, s, pid, Call{Kind: Read, A: i, B: 9}, Result{Data: []byte("tmp")})
			if x := s.Table(); x.Links(10) != 0 || x.Right() {
				t.Error(build.Tell(x))
			}
			wantDone(t, s, pid, Call{Kind: Close, A: i})
			wantOpen(t, s)
			if has(s, 10) {
				t.Errorf("%v: what isn't open any more stays", k)
			}
		}
	}
}

// P17.3

func TestOpenAtPlaces(t *testing.T) {
	s := all(t)
	for i := range api.FdMax {
		wantTold(t, s, anns, Call{Kind: Open, Path: "d/f", A: files.Read}, Result{N: i})
	}
	for _, k := range []Call{
		{Path: "d/f", A: files.Read}, {Path: "tmp/x", A: files.Read}, {Path: "x", A: files.Read}, {Path: "d", A: files.Read},
		{Path: "new", A: files.Write | files.Creat}, {Path: "d/f", A: files.Write | files.Trunc}, {Path: "d/f", A: 0}, {Path: "", A: -1}, {},
	} {
		k.Kind = Open
		wantFault(t, s, anns, k, api.EMFILE)
	}
	// Others have places of their own.
	wantTold(t, s, bobs, Call{Kind: Open, Path: "d/f", A: files.Read}, Result{N: 0})
	for _, l := range [][]int{{0}, {1}, {2}, {0, 1}, {1, 0}, {2, 0}, {1, 2}, {2, 1, 0}} {
		for _, i := range l {
			wantDone(t, s, anns, Call{Kind: Close, A: i})
		}
		slices.Sort(l)
		for _, i := range l {
			wantTold(t, s, anns, Call{Kind: Open, Path: "tmp/x", A: files.Read}, Result{N: i})
			wantFd(t, s, anns, i, Fd{Node: 10, Read: true})
		}
		wantFault(t, s, anns, Call{Kind: Open, Path: "d/f", A: files.Read}, api.EMFILE)
	}
}

func TestFlagsOfOpen(t *testing.T) {
	x := sample(t)
	for flags := -3; flags < 70; flags++ {
		for _, path := range []string{"d/f", "tmp/x", "s", "d", "new", "dir/new", "shut/f", "self"} {
			for pid, c := range everyone {
				s, after := New(x, 0o027, everyone...), x.Clone()
				k := Call{Kind: Open, Path: path, A: flags, B: 0o4765}
				id, err := files.Open(after, c, 0o027, path, flags, 0o4765)
				if err != api.OK {
					wantFault(t, s, pid, k, err)
					continue
				}
				r := s.Do(pid, k)
				if !sameResult(r, Result{}) || !s.Table().Same(after) {
					t.Errorf("%v, by process %d: %v, %v, want %v", k, pid, r, build.Tell(s.Table()), build.Tell(after))
				}
				wantFd(t, s, pid, 0, Fd{Node: id, Read: flags%2 == 1, Write: flags/2%2 == 1})
				wantFd(t, s, pid, 1, Fd{})
				wantOpen(t, s, id)
			}
		}
	}
}

func TestOpenThatFails(t *testing.T) {
	s := all(t)
	open := func(path string, flags int) Call { return Call{Kind: Open, Path: path, A: flags, B: 0o666} }
	for pid := range everyone {
		wantFault(t, s, pid, open("d/f", 0), api.EINVAL)
		wantFault(t, s, pid, open("x", files.Read), api.ENOENT)
		wantFault(t, s, pid, open("d", files.Read), api.EISDIR)
		wantFault(t, s, pid, open("s", files.Read|files.NoFollow), api.ELOOP)
		wantFault(t, s, pid, open("d/f", files.Write|files.Creat|files.Excl), api.EEXIST)
	}
	wantFault(t, s, bobs, open("shut/f", files.Read), api.EACCES)
	wantFault(t, s, bobs, open("d/f", files.Write), api.EACCES)
	wantFault(t, s, bobs, open("new", files.Write|files.Creat), api.EACCES)
}

func TestRead(t *testing.T) {
	s := all(t)
	i := opened(t, s, anns, "d/f", files.Read)
	for _, x := range []struct {
		n    int
		want string
		off  int
	}{{0, "", 0}, {2, "he", 2}, {0, "", 2}, {1, "l", 3}, {math.MaxInt, "lo", 5}, {1, "", 5}, {48, "", 5}, {0, "", 5}} {
		wantTold(t, s, anns, Call{Kind: Read, A: i, B: x.n}, Result{Data: []byte(x.want)})
		wantFd(t, s, anns, i, Fd{Node: 3, Off: x.off, Read: true})
		wantFault(t, s, anns, Call{Kind: Read, A: i, B: -1}, api.EINVAL)
		wantFault(t, s, anns, Call{Kind: Read, A: i, B: math.MinInt}, api.EINVAL)
	}
	// Each place has an Off of its own, also of one node.
	j, k := opened(t, s, anns, "tmp/two", files.Read), opened(t, s, bobs, "s", files.Read)
	wantTold(t, s, anns, Call{Kind: Read, A: j, B: 4}, Result{Data: []byte("hell")})
	wantTold(t, s, bobs, Call{Kind: Read, A: k, B: 1}, Result{Data: []byte("h")})
	wantFd(t, s, anns, i, Fd{Node: 3, Off: 5, Read: true})
	wantFd(t, s, anns, j, Fd{Node: 3, Off: 4, Read: true})
	wantFd(t, s, bobs, k, Fd{Node: 3, Off: 1, Read: true})
	// Who changes what is read changes nothing else.
	r := done(t, s, bobs, Call{Kind: Read, A: k, B: 4})
	clear(r.Data)
	if n := get(t, s.Table(), 3); string(n.Data) != "hello" {
		t.Errorf("%q", n.Data)
	}
}

func TestWrite(t *testing.T) {
	s := all(t)
	i := opened(t, s, anns, "tmp/x", files.Write)
	for _, x := range []struct {
		b, want string
		off     int
	}{{"", "tmp", 0}, {"T", "Tmp", 1}, {"MP", "TMP", 3}, {"", "TMP", 3}, {"\x00!", "TMP\x00!", 5}} {
		if r := s.Do(anns, Call{Kind: Write, A: i, Data: []byte(x.b)}); !sameResult(r, Result{N: len(x.b)}) {
			t.Errorf("%q: %v", x.b, r)
		}
		wantFd(t, s, anns, i, Fd{Node: 10, Off: x.off, Write: true})
		if n := get(t, s.Table(), 10); string(n.Data) != x.want {
			t.Errorf("%q: %q, want %q", x.b, n.Data, x.want)
		}
	}
	wantFault(t, s, anns, Call{Kind: Write, A: i, Data: make([]byte, 44)}, api.EFBIG)
	wantFault(t, s, anns, Call{Kind: Write, A: i, Data: make([]byte, 1000)}, api.EFBIG)
	if r := s.Do(anns, Call{Kind: Write, A: i, Data: bytes.Repeat([]byte("n"), 43)}); !sameResult(r, Result{N: 43}) {
		t.Error(r)
	}
	wantFault(t, s, anns, Call{Kind: Write, A: i, Data: []byte("x")}, api.EFBIG)
	wantTold(t, s, anns, Call{Kind: Write, A: i}, Result{})
	if n := get(t, s.Table(), 10); string(n.Data) != "TMP\x00!"+strings.Repeat("n", 43) {
		t.Errorf("%q", n.Data)
	}
}

// What is written is neither kept nor changed.
func TestDataIsNotKept(t *testing.T) {
	s := all(t)
	i := opened(t, s, anns, "tmp/x", files.Write|files.Trunc)
	b := []byte("hello")
	done(t, s, anns, Call{Kind: Write, A: i, Data: b})
	if string(b) != "hello" {
		t.Errorf("%q", b)
	}
	clear(b)
	if n := get(t, s.Table(), 10); string(n.Data) != "hello" {
		t.Errorf("%q", n.Data)
	}
}

func TestReadAndWriteOfOne(t *testing.T) {
	s := all(t)
	i := opened(t, s, anns, "tmp/x", files.Read|files.Write)
	wantTold(t, s, anns, Call{Kind: Read, A: i, B: 1}, Result{Data: []byte("t")})
	done(t, s, anns, Call{Kind: Write, A: i, Data: []byte("o")})
	wantTold(t, s, anns, Call{Kind: Read, A: i, B: 9}, Result{Data: []byte("p")})
	wantFd(t, s, anns, i, Fd{Node: 10, Off: 3, Read: true, Write: true})
	// Who cuts it leaves where others are in it.
	j := opened(t, s, bobs, "tmp/x", files.Write|files.Trunc)
	wantTold(t, s, anns, Call{Kind: Read, A: i, B: 9}, Result{})
	wantFd(t, s, anns, i, Fd{Node: 10, Off: 3, Read: true, Write: true})
	done(t, s, bobs, Call{Kind: Write, A: j, Data: []byte("B")})
	done(t, s, anns, Call{Kind: Write, A: i, Data: []byte("A")})
	if n := get(t, s.Table(), 10); string(n.Data) != "B\x00\x00A" {
		t.Errorf("%q", n.Data)
	}
}

// Who has opened a file reads and writes it, whatever its mode is by now.
func TestModeBehindOpen(t *testing.T) {
	s := all(t)
	i := opened(t, s, bobs, "tmp/x", files.Read|files.Write)
	done(t, s, anns, Call{Kind: Chmod, Path: "tmp/x", A: 0})
	wantTold(t, s, bobs, Call{Kind: Read, A: i, B: 9}, Result{Data: []byte("tmp")})
	done(t, s, bobs, Call{Kind: Write, A: i, Data: []byte("!")})
	wantFault(t, s, bobs, Call{Kind: Open, Path: "tmp/x", A: files.Read}, api.EACCES)
	if n := get(t, s.Table(), 10); string(n.Data) != "tmp!" || n.Mode != 0 {
		t.Error(n)
	}
}

// A write takes Suid away, where who writes isn't root.
func TestWriteIsByTheProcess(t *testing.T) {
	for pid := range everyone {
		s := all(t)
		i := opened(t, s, pid, "tmp/x", files.Write)
		done(t, s, roots, Call{Kind: Chmod, Path: "tmp/x", A: 0o6777})
		done(t, s, pid, Call{Kind: Write, A: i})
		if n := get(t, s.Table(), 10); n.Mode != 0o6777 {
			t.Errorf("a write of nothing, by process %d: %o", pid, n.Mode)
		}
		done(t, s, pid, Call{Kind: Write, A: i, Data: []byte("x")})
		want := 0o777
		if pid == roots {
			want = 0o6777
		}
		if n := get(t, s.Table(), 10); n.Mode != want {
			t.Errorf("by process %d: %o, want %o", pid, n.Mode, want)
		}
	}
}

func TestPlacesThatAreNotOpen(t *testing.T) {
	s := all(t)
	r := opened(t, s, anns, "tmp/x", files.Read)
	w := opened(t, s, anns, "tmp/x", files.Write)
	opened(t, s, bobs, "tmp/x", files.Read|files.Write)
	for _, n := range []int{-1, 0, 1, math.MinInt, math.MaxInt} {
		for _, i := range []int{-1, 2, 3, 4, 1 << 32, math.MinInt, math.MaxInt} {
			wantFault(t, s, anns, Call{Kind: Read, A: i, B: n}, api.EBADF)
			wantFault(t, s, anns, Call{Kind: Write, A: i, B: n, Data: []byte("x")}, api.EBADF)
			wantFault(t, s, anns, Call{Kind: Write, A: i, B: n, Data: make([]byte, 99)}, api.EBADF)
			wantFault(t, s, anns, Call{Kind: Write, A: i, B: n}, api.EBADF)
			wantFault(t, s, anns, Call{Kind: Close, A: i, B: n}, api.EBADF)
		}
		// What isn't open so is told ahead of all else.
		wantFault(t, s, anns, Call{Kind: Read, A: w, B: n}, api.EBADF)
		wantFault(t, s, anns, Call{Kind: Write, A: r, B: n, Data: make([]byte, 99)}, api.EBADF)
		wantFault(t, s, anns, Call{Kind: Write, A: r, B: n}, api.EBADF)
	}
	wantDone(t, s, anns, Call{Kind: Close, A: r})
	wantDone(t, s, anns, Call{Kind: Close, A: w})
	for _, i := range []int{r, w} {
		wantFault(t, s, anns, Call{Kind: Close, A: i}, api.EBADF)
		wantFault(t, s, anns, Call{Kind: Read, A: i, B: 1}, api.EBADF)
		wantFault(t, s, anns, Call{Kind: Write, A: i, Data: []byte("x")}, api.EBADF)
	}
	wantOpen(t, s, 10)
}

// A node that no entry has is gone when the last place that has it is free.
func TestClose(t *testing.T) {
	s := all(t)
	for _, pid := range []int{anns, anns, bobs} {
		opened(t, s, pid, "tmp/x", files.Read)
	}
	opened(t, s, cats, "d/f", files.Read)
	done(t, s, roots, Call{Kind: Unlink, Path: "tmp/x"})
	done(t, s, roots, Call{Kind: Unlink, Path: "d/f"})
	wantOpen(t, s, 10, 10, 10, 3)
	wantTold(t, s, anns, Call{Kind: Close, A: 0}, Result{})
	wantOpen(t, s, 10, 10, 3)
	wantTold(t, s, bobs, Call{Kind: Close, A: 0}, Result{})
	wantOpen(t, s, 10, 3)
	// An entry has it still.
	wantTold(t, s, cats, Call{Kind: Close, A: 0}, Result{})
	wantOpen(t, s, 10)
	wantDone(t, s, anns, Call{Kind: Close, A: 1})
	wantOpen(t, s)
	for id := 1; id <= 12; id++ {
		if has(s, id) != (id != 10) {
			t.Errorf("node %d: %v", id, has(s, id))
		}
	}
	wantFd(t, s, anns, 1, Fd{})
	// Off, Read and Write are those of the file that is opened there next.
	opened(t, s, anns, "d/../tmp/two", files.Write)
	wantFd(t, s, anns, 0, Fd{Node: 3, Write: true})
}

func TestExit(t *testing.T) {
	for pid := range everyone {
		for mask := range 8 {
			s := all(t)
			other := (pid + 1) % len(everyone)
			i := opened(t, s, other, "tmp/two", files.Read)
			for range api.FdMax {
				opened(t, s, pid, "tmp/x", files.Read)
			}
			for place := range api.FdMax {
				if mask>>place&1 == 1 {
					wantDone(t, s, pid, Call{Kind: Close, A: place})
				}
			}
			done(t, s, pid, Call{Kind: Umask, A: 0o077})
			done(t, s, roots, Call{Kind: Unlink, Path: "tmp/x"})
			wantDone(t, s, pid, Call{Kind: Exit, A: i})
			wantOpen(t, s, 3)
			for place := range api.FdMax {
				wantFd(t, s, pid, place, Fd{})
			}
			wantFd(t, s, other, i, Fd{Node: 3, Read: true})
			if has(s, 10) || s.Table().Used() != 11 || s.Umask(pid) != 0o077 {
				t.Error(build.Tell(s.Table()), s.Umask(pid))
			}
			// Nothing is left to be closed, but calls are answered as before.
			wantTold(t, s, pid, Call{Kind: Exit}, Result{})
			if place := opened(t, s, pid, "tmp/two", files.Read); place != 0 {
				t.Error(place)
			}
		}
	}
}

// Files of different nodes are all closed.
func TestExitOfMany(t *testing.T) {
	s := New(built(t, api.CapMax, dirAt(0, "", 0o777)), 0o022, ann, bob)
	for _, name := range []string{"a", "b", "c"} {
		opened(t, s, 0, name, files.Write|files.Creat)
		opened(t, s, 1, name, files.Read)
		done(t, s, 1, Call{Kind: Unlink, Path: name})
	}
	wantOpen(t, s, 2, 3, 4, 2, 3, 4)
	done(t, s, 1, Call{Kind: Close, A: 1})
	wantDone(t, s, 0, Call{Kind: Exit})
	wantOpen(t, s, 2, 4)
	if s.Table().Used() != 3 || has(s, 3) {
		t.Error(build.Tell(s.Table()))
	}
	wantDone(t, s, 1, Call{Kind: Exit})
	wantOpen(t, s)
	if s.Table().Used() != 1 {
		t.Error(build.Tell(s.Table()))
	}
}

// Open nodes fill a table as well.
func TestOpenNodesTakeRoom(t *testing.T) {
	s := New(built(t, 2, dirAt(0, "", 0o777)), 0o022, ann, bob)
	i := opened(t, s, 0, "a", files.Write|files.Creat)
	done(t, s, 0, Call{Kind: Unlink, Path: "a"})
	wantFault(t, s, 1, Call{Kind: Mkdir, Path: "b"}, api.ENOSPC)
	wantFault(t, s, 1, Call{Kind: Open, Path: "b", A: files.Write | files.Creat}, api.ENOSPC)
	done(t, s, 0, Call{Kind: Close, A: i})
	wantDone(t, s, 1, Call{Kind: Mkdir, Path: "b"})
}

// P17.4

func TestNil(t *testing.T) {
	var s *System
	for kind := -1; kind <= 20; kind++ {
		for _, pid := range pids {
			if r := s.Do(pid, Call{Kind: kind, Path: "/", A: 1}); !sameResult(r, Result{Err: api.EINVAL}) {
				t.Errorf("kind %d, by process %d: %v", kind, pid, r)
			}
		}
	}
	if s.Table() != nil || len(s.Open()) != 0 {
		t.Error(s.Table(), s.Open())
	}
	for _, pid := range pids {
		for _, i := range places {
			if s.Umask(pid) != 0 || s.Fd(pid, i) != (Fd{}) {
				t.Error(s.Umask(pid), s.Fd(pid, i))
			}
		}
	}
}

// P17.5, and a second reading of the chapter, of many systems by chance of one seed.

// reading is a system as the chapter tells of it: places that are open are listed, by process and place.
type reading struct {
	x      *table.Table
	who    []api.Cred
	umasks []int
	fds    map[[2]int]Fd
}

// rest is a number's nine bits.
func rest(n int) int { return (n%512 + 512) % 512 }

func newReading(x *table.Table, umask int, who []api.Cred) *reading {
	return &reading{x: x.Clone(), who: who, umasks: slices.Repeat([]int{rest(umask)}, len(who)), fds: map[[2]int]Fd{}}
}

func (m *reading) open() []int {
	var l []int
	for pid := range m.who {
		for i := range 3 {
			if f, is := m.fds[[2]int{pid, i}]; is {
				l = append(l, f.Node)
			}
		}
	}
	return l
}

func (m *reading) do(pid int, k Call) Result {
	if pid < 0 || pid >= len(m.who) || k.Kind < 1 || k.Kind > 18 {
		return Result{Err: api.EINVAL}
	}
	f, is := m.fds[[2]int{pid, k.A}]
	switch k.Kind {
	case Open:
		return m.doOpen(pid, k)
	case Read:
		if !is || !f.Read {
			return Result{Err: api.EBADF}
		}
		b, err := files.ReadAt(m.x, f.Node, f.Off, k.B)
		f.Off += len(b)
		m.fds[[2]int{pid, k.A}] = f
		return Result{Err: err, Data: b}
	case Write:
		if !is || !f.Write {
			return Result{Err: api.EBADF}
		}
		if err := files.WriteAt(m.x, m.who[pid], f.Node, f.Off, k.Data); err != api.OK {
			return Result{Err: err}
		}
		f.Off += len(k.Data)
		m.fds[[2]int{pid, k.A}] = f
		return Result{N: len(k.Data)}
	case Close:
		return Result{Err: m.doClose(pid, k.A)}
	case Exit:
		for i := range 3 {
			m.doClose(pid, i)
		}
		return Result{}
	case Umask:
		was := m.umasks[pid]
		m.umasks[pid] = rest(k.A)
		return Result{N: was}
	}
	return ofLayers(m.x, m.who[pid], m.umasks[pid], k, m.open())
}

func (m *reading) doOpen(pid int, k Call) Result {
	for i := range 3 {
		if _, is := m.fds[[2]int{pid, i}]; is {
			continue
		}
		id, err := files.Open(m.x, m.who[pid], m.umasks[pid], k.Path, k.A, k.B)
		if err != api.OK {
			return Result{Err: err}
		}
		m.fds[[2]int{pid, i}] = Fd{Node: id, Read: k.A%2 == 1, Write: k.A/2%2 == 1}
		return Result{N: i}
	}
	return Result{Err: api.EMFILE}
}

func (m *reading) doClose(pid, i int) api.Errno {
	f, is := m.fds[[2]int{pid, i}]
	if !is {
		return api.EBADF
	}
	delete(m.fds, [2]int{pid, i})
	if m.x.Links(f.Node) == 0 && !slices.Contains(m.open(), f.Node) {
		m.x.Drop(f.Node)
	}
	return api.OK
}

func (m *reading) state() state {
	st := state{x: m.x.Clone(), open: m.open()}
	for _, pid := range pids {
		umask := 0
		if pid >= 0 && pid < len(m.umasks) {
			umask = m.umasks[pid]
		}
		st.umasks = append(st.umasks, umask)
		for _, i := range places {
			st.fds = append(st.fds, m.fds[[2]int{pid, i}])
		}
	}
	return st
}

func somePath(r *rand.Rand, most int) string {
	pieces := []string{"a", "b", "c", "d", "e", "f", "a", "b", "c", "a", "b", "c", ".", "..", "", "nnnnnnnnnnnnn"}
	var names []string
	for range 1 + r.Intn(most) {
		names = append(names, pieces[r.Intn(len(pieces))])
	}
	path := strings.Join(names, "/")
	if path == "" || r.Intn(3) == 0 {
		path = "/" + path
	}
	return path
}

// someTree is a table that is Right, of nodes that were told by chance.
func someTree(r *rand.Rand) *table.Table {
	told := []build.Raw{{Kind: api.Dir, Mode: 0o777 | r.Intn(8)<<9, Uid: r.Intn(3), Gid: r.Intn(5)}}
	room := 2 + r.Intn(api.CapMax)
	x, _, _ := build.Build(room, told)
	for range r.Intn(30) {
		raw := build.Raw{Kind: 1 + r.Intn(4), Mode: someMode(r), Uid: r.Intn(3), Gid: r.Intn(5), Parent: 1 + r.Intn(len(told)), Name: string(rune('a' + r.Intn(6)))}
		switch raw.Kind {
		case api.File:
			raw.Data = make([]byte, r.Intn(49))
			r.Read(raw.Data)
		case api.Link:
			raw.Mode, raw.Target = 511, somePath(r, 3)
		case build.Again:
			raw.Node = 1 + r.Intn(len(told))
		}
		more, _, err := build.Build(room, append(slices.Clone(told), raw))
		if err == api.OK {
			x, told = more, append(told, raw)
		}
	}
	return x
}

func someMode(r *rand.Rand) int {
	if r.Intn(4) > 0 {
		return 0o777 | r.Intn(8)<<9
	}
	return r.Intn(4096)
}

func someCall(r *rand.Rand) Call {
	kinds := []int{Open, Open, Open, Open, Open, Read, Write, Write, Rmdir, Rename, 1 + r.Intn(18), 1 + r.Intn(18), 1 + r.Intn(18), 1 + r.Intn(18)}
	k := Call{Kind: kinds[r.Intn(len(kinds))], Path: somePath(r, 3), Other: somePath(r, 3), A: someMode(r), B: someMode(r)}
	switch k.Kind {
	case Chown, Lchown:
		k.A, k.B = r.Intn(7)-2, r.Intn(7)-2
	case Umask:
		k.A = []int{0, 0o022, 0o077, r.Intn(3*4096) - 4096}[r.Intn(4)]
	case Open:
		k.A = []int{1, 2, 3, 5, 6, 7, 14, 18, 22, 1, 2, 3, r.Intn(70)}[r.Intn(13)]
	case Read, Write, Close:
		k.A, k.B = r.Intn(4), r.Intn(30)-2
		k.Data = make([]byte, r.Intn(30))
		r.Read(k.Data)
	}
	if r.Intn(60) == 0 {
		k.Kind, k.A = r.Intn(40)-10, r.Intn(6)-2
	}
	return k
}

func TestManyCalls(t *testing.T) {
	r := rand.New(rand.NewSource(17))
	cameUp, kinds, loose := map[api.Errno]int{}, map[int]int{}, 0
	for range 1500 {
		x, umask, who := someTree(r), r.Intn(3*512), []api.Cred{}
		for range r.Intn(6) {
			who = append(who, everyone[r.Intn(len(everyone))])
		}
		s, m := New(x, umask, who...), newReading(x, umask, who)
		for range 120 {
			pid, k := r.Intn(len(who)+1), someCall(r)
			if r.Intn(40) == 0 {
				pid = pids[r.Intn(len(pids))]
			}
			before := stateOf(s)
			want, got := m.do(pid, k), s.Do(pid, k)
			after := stateOf(s)
			if !sameResult(got, want) || !after.same(m.state()) {
				t.Fatalf("%v, by process %d of %v: %v, want %v, of %v", k, pid, who, got, want, build.Tell(before.x))
			}
			if got.Err != api.OK && (!after.same(before) || !sameResult(got, Result{Err: got.Err})) {
				t.Fatalf("%v, by process %d: a call that fails changes or tells something", k, pid)
			}
			if !after.x.Right(after.open...) || after.x.Room() != x.Room() {
				t.Fatalf("%v, by process %d: %v of %v", k, pid, build.Tell(after.x), build.Tell(before.x))
			}
			cameUp[got.Err]++
			if got.Err == api.OK {
				kinds[k.Kind]++
			}
			if !after.x.Right() {
				loose++
			}
		}
	}
	for _, err := range []api.Errno{
		api.OK, api.EPERM, api.ENOENT, api.EBADF, api.EACCES, api.EEXIST, api.ENOTDIR, api.EISDIR, api.EINVAL,
		api.EMFILE, api.EFBIG, api.ENOSPC, api.ENAMETOOLONG, api.ENOTEMPTY, api.ELOOP,
	} {
		if cameUp[err] < 50 {
			t.Errorf("%v came up %d times alone", err, cameUp[err])
		}
	}
	for kind := Stat; kind <= Exit; kind++ {
		if kinds[kind] < 50 {
			t.Errorf("kind %d went well %d times alone", kind, kinds[kind])
		}
	}
	if loose < 500 {
		t.Errorf("a node that was open had no entry %d times alone", loose)
	}
}

// The same calls have the same answers, and systems are apart.
func TestApart(t *testing.T) {
	r := rand.New(rand.NewSource(18))
	for range 50 {
		x := someTree(r)
		a, b, idle := New(x, 0o022, everyone...), New(x, 0o022, everyone...), New(x, 0o022, everyone...)
		before := stateOf(idle)
		for range 60 {
			pid, k := r.Intn(len(everyone)), someCall(r)
			was, is := a.Do(pid, k), b.Do(pid, k)
			if !sameResult(was, is) || !stateOf(a).same(stateOf(b)) {
				t.Fatalf("%v, by process %d: %v, then %v", k, pid, was, is)
			}
		}
		if !stateOf(idle).same(before) {
			t.Fatal("calls of one system change another one")
		}
	}
}
