package cred

import (
	"math"
	"reflect"
	"testing"

	"gaoler/api"
)

// noModes pairs numbers that are no mode with the mode that counts for them.
var noModes = map[int]int{
	-1: 4095, -2: 4094, -4095: 1, -4096: 0, -4097: 4095,
	4096: 0, 4097: 1, 8191: 4095, 8192 + 0o4755: 0o4755, -4096 + 0o640: 0o640,
	math.MaxInt: 4095, math.MinInt: 0, math.MinInt + 0o2010: 0o2010,
}

// ids has ordinary numbers of users and groups, the ends of them, and numbers that are none.
var ids = []int{0, 1, 2, 3, 7, api.IdMax, api.IdMax + 1, -1, -2, math.MaxInt, math.MinInt}

var notFiles = []int{api.Dir, api.Link, 0, 4, -1, math.MaxInt, math.MinInt}

// roots is root, whatever else they are.
var roots = []api.Cred{
	{}, {Groups: []int{0}}, {Gid: 5}, {Gid: 1, Groups: []int{2, 3}}, {Gid: -1, Groups: []int{-7}},
}

// users is who isn't root, with the groups of root, too, and with groups by each number of them.
var users = []api.Cred{
	{Uid: 1, Gid: 1}, {Uid: 1, Gid: 1, Groups: []int{2}}, {Uid: 7, Gid: 3, Groups: []int{4, 5}},
	{Uid: 1, Gid: 0}, {Uid: 1, Gid: 2, Groups: []int{0}}, {Uid: 2, Groups: []int{}}, {Uid: 3, Gid: 3, Groups: []int{3, 3, 1}},
	{Uid: api.IdMax, Gid: api.IdMax, Groups: []int{7}}, {Uid: -1, Gid: -1}, {Uid: -2, Gid: 1, Groups: []int{-1, 2}},
	{Uid: math.MaxInt, Gid: math.MinInt, Groups: []int{math.MaxInt}}, {Uid: math.MinInt, Gid: 2},
}

func everyone() []api.Cred { return append(append([]api.Cred{}, roots...), users...) }

// user1 is that of the chapter's examples.
func user1() api.Cred { return api.Cred{Uid: 1, Gid: 1, Groups: []int{2}} }

// rest is the mode that counts for a number, by division alone.
func rest(n int) int { return (n%4096 + 4096) % 4096 }

func memberSlowly(c api.Cred, gid int) bool {
	for _, g := range c.Groups {
		if g == gid {
			return true
		}
	}
	return c.Gid == gid
}

// canSlowly asks for one bit after the other, each by its own place in the mode.
func canSlowly(c api.Cred, uid, gid, mode, want int) bool {
	if c.Uid == 0 {
		return true
	}
	places := []int{0o004, 0o002, 0o001}
	if c.Uid == uid {
		places = []int{0o400, 0o200, 0o100}
	} else if memberSlowly(c, gid) {
		places = []int{0o040, 0o020, 0o010}
	}
	want = (want%8 + 8) % 8
	for i, bit := range []int{4, 2, 1} {
		if want/bit%2 == 1 && rest(mode)/places[i]%2 == 0 {
			return false
		}
	}
	return true
}

// P4.1

func TestMember(t *testing.T) {
	for _, c := range everyone() {
		for _, gid := range ids {
			if got, want := Member(c, gid), memberSlowly(c, gid); got != want {
				t.Errorf("Member(%v, %d) = %v", c, gid, got)
			}
		}
	}
}

func TestMemberKnown(t *testing.T) {
	c := api.Cred{Uid: 7, Gid: 3, Groups: []int{4, 5, 6}}
	for gid, want := range map[int]bool{3: true, 4: true, 5: true, 6: true, 7: false, 0: false, 2: false, -3: false, 3 + 4096: false} {
		if got := Member(c, gid); got != want {
			t.Errorf("Member(%v, %d) = %v", c, gid, got)
		}
	}
	// Root is of no group but its own.
	if Member(api.Cred{Gid: 1}, 0) || Member(api.Cred{}, 1) || !Member(api.Cred{}, 0) {
		t.Error("root")
	}
	// Whose groups are none is still of the first one, and of that alone.
	if !Member(api.Cred{Uid: 1, Gid: 1}, 1) || Member(api.Cred{Uid: 1, Gid: 1}, 0) || !Member(api.Cred{Uid: 1, Gid: 1, Groups: []int{0}}, 0) {
		t.Error("no groups")
	}
}

func TestClass(t *testing.T) {
	c := api.Cred{Uid: 7, Gid: 3, Groups: []int{4, 5}}
	for _, x := range []struct{ uid, gid, want int }{
		{7, 9, 0}, {7, 3, 0}, {7, 4, 0}, {7, 7, 0},
		{8, 3, 1}, {8, 4, 1}, {8, 5, 1}, {0, 3, 1}, {-1, 5, 1}, {3, 4, 1},
		{8, 9, 2}, {8, 7, 2}, {0, 0, 2}, {-7, -3, 2}, {3, 8, 2},
	} {
		if got := Class(c, x.uid, x.gid); got != x.want {
			t.Errorf("Class(%d, %d) = %d, want %d", x.uid, x.gid, got, x.want)
		}
	}
}

// TestClassOfRoot: root has a class as all have it, though it counts for nothing there.
func TestClassOfRoot(t *testing.T) {
	c := api.Cred{Gid: 1, Groups: []int{2}}
	for _, x := range []struct{ uid, gid, want int }{{0, 9, 0}, {0, 1, 0}, {1, 1, 1}, {1, 2, 1}, {1, 0, 2}, {1, 9, 2}} {
		if got := Class(c, x.uid, x.gid); got != x.want {
			t.Errorf("Class(%d, %d) = %d, want %d", x.uid, x.gid, got, x.want)
		}
	}
}

func TestClassOfEach(t *testing.T) {
	for _, c := range everyone() {
		for _, uid := range ids {
			for _, gid := range ids {
				want := 2
				if memberSlowly(c, gid) {
					want = 1
				}
				if uid == c.Uid {
					want = 0
				}
				if got := Class(c, uid, gid); got != want {
					t.Errorf("Class(%v, %d, %d) = %d, want %d", c, uid, gid, got, want)
				}
			}
		}
	}
}

func TestCanExamples(t *testing.T) {
	c := user1()
	if got := Class(c, 2, 2); got != 1 {
		t.Errorf("class %d", got)
	}
	for want := range 8 {
		if !Can(c, 2, 2, 0o770, want) {
			t.Errorf("0770 doesn't let %d", want)
		}
		if Can(c, 2, 2, 0o707, want) != (want == 0) {
			t.Errorf("0707 lets %d", want)
		}
	}
}

func TestCanKnown(t *testing.T) {
	c := api.Cred{Uid: 7, Gid: 3, Groups: []int{4, 5}}
	for _, x := range []struct {
		uid, gid, mode, want int
		can                  bool
	}{
		{7, 3, 0o700, 7, true}, {7, 3, 0o600, 6, true}, {7, 3, 0o600, 7, false}, {7, 3, 0o600, 1, false}, {7, 9, 0o077, 4, false}, {7, 9, 0o077, 0, true},
		{8, 3, 0o040, 4, true}, {8, 4, 0o020, 2, true}, {8, 5, 0o010, 1, true}, {8, 5, 0o010, 3, false}, {8, 3, 0o707, 1, false},
		{8, 9, 0o004, 4, true}, {8, 9, 0o005, 5, true}, {8, 9, 0o005, 6, false}, {8, 9, 0o770, 2, false}, {0, 0, 0o775, 2, false}, {0, 0, 0o775, 5, true},
		// What Suid, Sgid and Sticky would let, they don't.
		{7, 9, 0o7077, 1, false}, {8, 3, 0o7707, 4, false}, {8, 9, 0o7770, 2, false},
		// All of the bits are asked for, not one of them.
		{7, 9, 0o400, 6, false}, {7, 9, 0o300, 7, false}, {7, 9, 0o500, 3, false},
		// Of what is wanted the rest by 8 counts.
		{8, 9, 0, 8, true}, {8, 9, 0o004, 12, true}, {8, 9, 0o004, 9, false}, {8, 9, 0o007, -1, true}, {8, 9, 0o006, -1, false}, {8, 9, 0, -8, true}, {8, 9, 0o001, -7, true}, {8, 9, 0o006, -7, false},
		{8, 9, 0o007, math.MaxInt, true}, {8, 9, 0o003, math.MaxInt, false}, {8, 9, 0, math.MinInt, true},
	} {
		if got := Can(c, x.uid, x.gid, x.mode, x.want); got != x.can {
			t.Errorf("Can(%d, %d, %04o, %d) = %v", x.uid, x.gid, x.mode, x.want, got)
		}
	}
}

func TestCanOfRoot(t *testing.T) {
	for _, c := range roots {
		for _, uid := range ids {
			for _, mode := range []int{0, 0o777, 0o070, 0o7000, -1, 4096} {
				for want := -9; want <= 16; want++ {
					if !Can(c, uid, uid, mode, want) {
						t.Fatalf("Can(%v, %d, %o, %d) is false", c, uid, mode, want)
					}
				}
			}
		}
	}
}

func TestCanOfEachMode(t *testing.T) {
	for _, c := range []api.Cred{user1(), {Uid: 5, Gid: 9, Groups: []int{3, 2}}, {Gid: 1}} {
		for mode := range 4096 {
			for _, of := range [][2]int{{1, 1}, {1, 9}, {5, 2}, {2, 2}, {2, 9}, {0, 0}} {
				for want := range 8 {
					if got, can := Can(c, of[0], of[1], mode, want), canSlowly(c, of[0], of[1], mode, want); got != can {
						t.Fatalf("Can(%v, %v, %04o, %d) = %v", c, of, mode, want, got)
					}
				}
			}
		}
	}
}

func TestCanOfEachUser(t *testing.T) {
	for _, c := range everyone() {
		for _, uid := range ids {
			for _, gid := range ids {
				for n := range 64 {
					mode, want := (n*587+uid&7)%4096, n*5%37-12
					if got, can := Can(c, uid, gid, mode, want), canSlowly(c, uid, gid, mode, want); got != can {
						t.Fatalf("Can(%v, %d, %d, %04o, %d) = %v", c, uid, gid, mode, want, got)
					}
				}
			}
		}
	}
}

func TestCanOfNoMode(t *testing.T) {
	c := user1()
	for n, is := range noModes {
		for want := range 8 {
			for _, of := range [][2]int{{1, 9}, {2, 2}, {9, 9}} {
				if got, can := Can(c, of[0], of[1], n, want), canSlowly(c, of[0], of[1], is, want); got != can {
					t.Errorf("Can(%v, %d, %d) = %v", of, n, want, got)
				}
			}
		}
	}
}

// P4.2

func TestMayMode(t *testing.T) {
	for _, c := range everyone() {
		for _, uid := range ids {
			want := c.Uid == uid || c.Uid == 0
			if got := MayMode(c, uid); got != want {
				t.Errorf("MayMode(%v, %d) = %v", c, uid, got)
			}
		}
	}
}

func TestMayModeKnown(t *testing.T) {
	c := api.Cred{Uid: 7, Gid: 3, Groups: []int{4, 0}}
	if !MayMode(c, 7) || MayMode(c, 8) || MayMode(c, 3) || MayMode(c, 4) || MayMode(c, 0) || MayMode(c, -7) {
		t.Error("a user")
	}
	if !MayMode(api.Cred{}, 7) || !MayMode(api.Cred{Gid: 7}, 0) || !MayMode(api.Cred{}, -1) {
		t.Error("root")
	}
}

func TestMayOwnKnown(t *testing.T) {
	c := api.Cred{Uid: 7, Gid: 3, Groups: []int{4, 5}}
	for _, x := range []struct {
		uid, gid, toUid, toGid int
		may                    bool
	}{
		{7, 9, 7, 9, true}, {7, 9, -1, -1, true}, {7, 9, 7, -1, true}, {7, 9, -1, 9, true}, {7, 9, -5, math.MinInt, true},
		// To each of one's groups, and to no other.
		{7, 9, -1, 3, true}, {7, 9, -1, 4, true}, {7, 9, 7, 5, true}, {7, 9, -1, 6, false}, {7, 9, 7, 7, false}, {7, 3, -1, 9, false}, {7, 3, -1, 0, false},
		// To no other user.
		{7, 9, 8, 9, false}, {7, 9, 8, -1, false}, {7, 9, 0, 9, false}, {7, 9, 0, -1, false}, {7, 3, 6, 3, false}, {7, 9, 9, 3, false}, {7, 9, 3, 4, false},
		// Of another user's nothing, not even to leave it as it is, nor to have it.
		{8, 3, 8, 3, false}, {8, 3, -1, -1, false}, {8, 3, -1, 4, false}, {8, 3, 7, 3, false}, {8, 3, 7, -1, false}, {0, 3, -1, 3, false}, {-1, 3, -1, 3, false},
		{7, 9, 8, 6, false}, {8, 9, 7, 6, false}, {7, 9, math.MaxInt, -1, false}, {7, 9, -1, math.MaxInt, false},
	} {
		if got := MayOwn(c, x.uid, x.gid, x.toUid, x.toGid); got != x.may {
			t.Errorf("MayOwn(%d, %d, %d, %d) = %v", x.uid, x.gid, x.toUid, x.toGid, got)
		}
	}
}

func TestMayOwnOfEach(t *testing.T) {
	mayOwn := func(c api.Cred, uid, gid, toUid, toGid int) bool {
		switch {
		case c.Uid == 0:
			return true
		case c.Uid != uid:
			return false
		case toUid >= 0 && toUid != uid:
			return false
		case toGid >= 0 && toGid != gid:
			return memberSlowly(c, toGid)
		}
		return true
	}
	for _, c := range everyone() {
		for _, uid := range ids {
			for _, gid := range ids {
				for _, toUid := range ids {
					for _, toGid := range ids {
						if got, want := MayOwn(c, uid, gid, toUid, toGid), mayOwn(c, uid, gid, toUid, toGid); got != want {
							t.Fatalf("MayOwn(%v, %d, %d, %d, %d) = %v", c, uid, gid, toUid, toGid, got)
						}
					}
				}
			}
		}
	}
}

// P4.3

func TestModeKnown(t *testing.T) {
	c := api.Cred{Uid: 7, Gid: 3, Groups: []int{4, 5}}
	for _, x := range []struct {
		c                     api.Cred
		kind, gid, mode, want int
	}{
		{c, api.File, 9, 0o2755, 0o755}, {c, api.File, 9, 0o2745, 0o745}, {c, api.File, 9, 0o7777, 0o5777}, {c, api.File, 9, 0o4755, 0o4755}, {c, api.File, 9, 0o1644, 0o1644}, {c, api.File, 7, 0o2000, 0}, {c, api.File, 0, 0o2000, 0},
		{c, api.File, 3, 0o2755, 0o2755}, {c, api.File, 4, 0o7777, 0o7777}, {c, api.File, 5, 0o2000, 0o2000},
		{c, api.Dir, 9, 0o2755, 0o2755}, {c, api.Link, 9, 0o7777, 0o7777}, {c, 0, 9, 0o2755, 0o2755}, {c, 4, 9, 0o2755, 0o2755}, {c, -1, 9, 0o2755, 0o2755},
		{api.Cred{}, api.File, 9, 0o2755, 0o2755}, {api.Cred{Gid: 1}, api.File, 9, 0o7777, 0o7777}, {api.Cred{}, api.Dir, 9, 0o2755, 0o2755},
	} {
		if got := Mode(x.c, x.kind, x.gid, x.mode); got != x.want {
			t.Errorf("Mode(%v, %d, %d, %04o) = %04o, want %04o", x.c, x.kind, x.gid, x.mode, got, x.want)
		}
	}
}

func TestModeOfEach(t *testing.T) {
	for _, c := range everyone() {
		for _, kind := range append([]int{api.File}, notFiles...) {
			for _, gid := range ids {
				loses := c.Uid != 0 && kind == api.File && !memberSlowly(c, gid)
				for mode := range 4096 {
					want := mode
					if loses && mode/1024%2 == 1 {
						want -= 1024
					}
					if got := Mode(c, kind, gid, mode); got != want {
						t.Fatalf("Mode(%v, %d, %d, %04o) = %04o, want %04o", c, kind, gid, mode, got, want)
					}
				}
			}
		}
	}
}

func TestWrittenKnown(t *testing.T) {
	c := api.Cred{Uid: 7, Gid: 3}
	for _, x := range []struct {
		c                api.Cred
		kind, mode, want int
	}{
		{c, api.File, 0o6755, 0o755}, {c, api.File, 0o4755, 0o755}, {c, api.File, 0o4000, 0}, {c, api.File, 0o4644, 0o644}, {c, api.File, 0o7777, 0o1777},
		// Sgid goes by the group's X, not by any other bit.
		{c, api.File, 0o2010, 0o010}, {c, api.File, 0o2000, 0o2000}, {c, api.File, 0o2767, 0o2767}, {c, api.File, 0o2101, 0o2101}, {c, api.File, 0o6745, 0o2745}, {c, api.File, 0o7767, 0o3767}, {c, api.File, 0o2111, 0o111},
		{c, api.File, 0o1644, 0o1644}, {c, api.File, 0o777, 0o777}, {c, api.File, 0, 0},
		{c, api.Dir, 0o6755, 0o6755}, {c, api.Link, 0o7777, 0o7777}, {c, 0, 0o6755, 0o6755}, {c, 4, 0o6755, 0o6755}, {c, -1, 0o6755, 0o6755},
		{api.Cred{}, api.File, 0o6755, 0o6755}, {api.Cred{Gid: 3, Groups: []int{1}}, api.File, 0o7777, 0o7777}, {api.Cred{}, api.Dir, 0o6755, 0o6755},
		// Root's group isn't root.
		{api.Cred{Uid: 7}, api.File, 0o6755, 0o755},
	} {
		if got := Written(x.c, x.kind, x.mode); got != x.want {
			t.Errorf("Written(%v, %d, %04o) = %04o, want %04o", x.c, x.kind, x.mode, got, x.want)
		}
	}
}

func TestWrittenOfEach(t *testing.T) {
	for _, c := range everyone() {
		for _, kind := range append([]int{api.File}, notFiles...) {
			for mode := range 4096 {
				want := mode
				if c.Uid != 0 && kind == api.File {
					want %= 2048
					if want/1024 == 1 && want/8%2 == 1 {
						want -= 1024
					}
				}
				if got := Written(c, kind, mode); got != want {
					t.Fatalf("Written(%v, %d, %04o) = %04o, want %04o", c, kind, mode, got, want)
				}
			}
		}
	}
}

// TestModesOfNoMode: the twelve bits alone come back, also where nothing is cleared.
func TestModesOfNoMode(t *testing.T) {
	for _, c := range everyone() {
		for _, kind := range append([]int{api.File}, notFiles...) {
			for n, is := range noModes {
				for _, gid := range ids {
					if got, want := Mode(c, kind, gid, n), Mode(c, kind, gid, is); got != want || got != rest(got) {
						t.Errorf("Mode(%v, %d, %d, %d) = %d, want %d", c, kind, gid, n, got, want)
					}
				}
				if got, want := Written(c, kind, n), Written(c, kind, is); got != want || got != rest(got) {
					t.Errorf("Written(%v, %d, %d) = %d, want %d", c, kind, n, got, want)
				}
			}
		}
	}
}

// P4.4

func TestStickyKnown(t *testing.T) {
	c := api.Cred{Uid: 7, Gid: 3, Groups: []int{1, 2, 0}}
	for _, x := range []struct {
		c                 api.Cred
		mode, dirUid, uid int
		may               bool
	}{
		{c, 0o777, 1, 2, true}, {c, 0, 1, 2, true}, {c, 0o6777, 0, 0, true},
		{c, 0o1777, 1, 2, false}, {c, 0o1000, 0, 0, false}, {c, 0o1777, 3, 3, false}, {c, 0o1777, -7, -7, false}, {c, 0o7777, 1, 1, false},
		{c, 0o1777, 7, 2, true}, {c, 0o1777, 1, 7, true}, {c, 0o1777, 7, 7, true}, {c, 0o1000, 0, 7, true}, {c, 0o1000, 7, 0, true},
		{api.Cred{}, 0o1777, 1, 2, true}, {api.Cred{Gid: 1}, 0o1000, 7, 7, true}, {api.Cred{Uid: 7}, 0o1777, 0, 0, false},
		{c, 512, 1, 2, false}, {c, 512 + 4096, 1, 2, false}, {c, -1, 1, 2, false}, {c, -4096, 1, 2, true}, {c, 4096, 1, 2, true}, {c, -4096 + 512, 1, 2, false},
	} {
		if got := Sticky(x.c, x.mode, x.dirUid, x.uid); got != x.may {
			t.Errorf("Sticky(%v, %04o, %d, %d) = %v", x.c, x.mode, x.dirUid, x.uid, got)
		}
	}
}

func TestStickyOfEach(t *testing.T) {
	var all []int
	for mode := range 4096 {
		all = append(all, mode)
	}
	for n := range noModes {
		all = append(all, n)
	}
	for _, c := range everyone() {
		for _, dirUid := range ids {
			for _, uid := range ids {
				for _, mode := range all {
					want := c.Uid == 0 || rest(mode)/512%2 == 0 || dirUid == c.Uid || uid == c.Uid
					if got := Sticky(c, mode, dirUid, uid); got != want {
						t.Fatalf("Sticky(%v, %o, %d, %d) = %v", c, mode, dirUid, uid, got)
					}
				}
			}
		}
	}
}

// P4.5

// TestOneClassCounts: whatever the two other classes let, and whatever of
// Suid, Sgid and Sticky is set, nothing is won and nothing lost by it.
func TestOneClassCounts(t *testing.T) {
	c := user1()
	for _, of := range []struct{ uid, gid, place int }{
		{1, 1, 64}, {1, 2, 64}, {1, 9, 64}, // the owner's, of the group or not
		{2, 1, 8}, {2, 2, 8},
		{2, 9, 1},
	} {
		for bits := range 8 {
			for mode := range 4096 {
				mode = mode - mode/of.place%8*of.place + bits*of.place
				for want := range 8 {
					if got := Can(c, of.uid, of.gid, mode, want); got != (bits&want == want) {
						t.Fatalf("Can(%d, %d, %04o, %d) = %v", of.uid, of.gid, mode, want, got)
					}
				}
			}
		}
	}
}

func TestArgumentsStay(t *testing.T) {
	groups := []int{2, 5, 3, 5}
	c := api.Cred{Uid: 1, Gid: 1, Groups: groups[:3]}
	ask := func() []any {
		return []any{
			Member(c, 3), Class(c, 2, 5), Can(c, 2, 3, 0o070, 7), MayMode(c, 2), MayOwn(c, 1, 9, -1, 5),
			Mode(c, api.File, 9, 0o7777), Written(c, api.File, 0o7777), Sticky(c, 0o1777, 2, 3),
		}
	}
	want := []any{true, 1, true, false, true, 0o5777, 0o1777, false}
	for range 3 {
		if got := ask(); !reflect.DeepEqual(got, want) {
			t.Errorf("%v, want %v", got, want)
		}
	}
	if !reflect.DeepEqual(groups, []int{2, 5, 3, 5}) || c.Uid != 1 || c.Gid != 1 {
		t.Errorf("the groups are now %v", groups)
	}
}

func TestMemberOfMany(t *testing.T) {
	c := api.Cred{Uid: 1, Gid: 1}
	for g := range 70000 {
		c.Groups = append(c.Groups, 2*g)
	}
	if !Member(c, 0) || !Member(c, 139998) || !Member(c, 1) || Member(c, 3) || Member(c, 140000) {
		t.Error("many groups")
	}
}
