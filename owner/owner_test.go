package owner

import (
	"fmt"
	"math"
	"slices"
	"strings"
	"testing"

	"gaoler/api"
)

var (
	userNames  = []string{"root", "ann", "bob", "cat"} // each at its number
	groupNames = []string{"wheel", "staff", "ops", "lab"}
)

// noIds is texts that are no name of a user or a group, and no number's text.
var noIds = []string{
	"", " ", "  1", " 1", "1 ", "1 2", "+1", "-1", "-0", "1a", "a1", "0x1", "0b1", "0o7", "1_0", "1e3", "1.0", "1,0", ".", "-", "+",
	"65536", "65537", "65600", "66000", "70000", "99999", "000000", "000001", "065535", "100000", "655350", "4294967296", "18446744073709551617",
	"Root", "ROOT", "roo", "roott", " root", "root ", "root\n", "\troot", "root\x00", "annbob", "ann,bob", "wheels", "whee", "Staff", "LAB", "lab ", "op", "opss",
	"é", "1é", "١", "१", "１", "²", "\x00", "1\x00", "\x00001", "\xff", "1\xff", "/", "1/", "1;", "\n", "0\n",
}

// shownIds is ids with and without names, their ends, and some between.
var shownIds = []int{0, 1, 2, 3, 4, 5, 9, 10, 99, 100, 999, 1000, 9999, 10000, 65534, 65535}

var below = []int{-1, -2, -3, -65535, math.MinInt}

type told struct {
	uid, gid int
	err      api.Errno
}

func parsed(s string) told {
	uid, gid, err := Parse(s)
	return told{uid, gid, err}
}

var refused = told{0, 0, api.EINVAL}

// numberTexts is each number's texts, with noughts ahead up to five digits.
func numberTexts() map[string]int {
	texts := map[string]int{}
	for n := range 65536 {
		for width := 1; width <= 5; width++ {
			texts[fmt.Sprintf("%0*d", width, n)] = n
		}
	}
	return texts
}

func wantID(t *testing.T, what string, f func(string) (int, api.Errno), s string, want int) {
	t.Helper()
	if id, err := f(s); id != want || err != api.OK {
		t.Errorf("%s(%q) = %d, %v, want %d", what, s, id, err, want)
	}
}

func wantNoID(t *testing.T, what string, f func(string) (int, api.Errno), s string) {
	t.Helper()
	if id, err := f(s); id != 0 || err != api.EINVAL {
		t.Errorf("%s(%q) = %d, %v, want 0, EINVAL", what, s, id, err)
	}
}

// P5.1

func TestNames(t *testing.T) {
	for id, name := range userNames {
		wantID(t, "User", User, name, id)
		wantNoID(t, "Group", Group, name)
	}
	for id, name := range groupNames {
		wantID(t, "Group", Group, name, id)
		wantNoID(t, "User", User, name)
	}
}

func TestNumbers(t *testing.T) {
	for s, want := range map[string]int{
		"0": 0, "00": 0, "00000": 0, "1": 1, "01": 1, "00001": 1, "3": 3, "4": 4, "9": 9, "17": 17, "007": 7, "10": 10, "08": 8, "0100": 100,
		"9999": 9999, "09999": 9999, "10000": 10000, "59999": 59999, "60000": 60000, "65000": 65000, "65499": 65499, "65500": 65500, "65529": 65529, "65534": 65534, "65535": 65535,
	} {
		wantID(t, "User", User, s, want)
		wantID(t, "Group", Group, s, want)
	}
}

// TestEachDigits: all texts of up to six digits, of which those of one to five, up to IdMax, are numbers.
func TestEachDigits(t *testing.T) {
	for width, end := 1, 10; width <= 6; width, end = width+1, end*10 {
		for n := range end {
			s := fmt.Sprintf("%0*d", width, n)
			want, wantErr := n, api.OK
			if width > 5 || n > 65535 {
				want, wantErr = 0, api.EINVAL
			}
			if id, err := User(s); id != want || err != wantErr {
				t.Fatalf("User(%q) = %d, %v", s, id, err)
			}
			if id, err := Group(s); id != want || err != wantErr {
				t.Fatalf("Group(%q) = %d, %v", s, id, err)
			}
		}
	}
}

func TestNoIds(t *testing.T) {
	for _, s := range append([]string{":", "1:", ":1", "ann:", ":ann", "ann:ops"}, noIds...) {
		wantNoID(t, "User", User, s)
		wantNoID(t, "Group", Group, s)
	}
	for _, s := range []string{strings.Repeat("0", 70000), strings.Repeat("9", 70000), strings.Repeat("root", 20000)} {
		if id, err := User(s); id != 0 || err != api.EINVAL {
			t.Errorf("User of %d bytes = %d, %v", len(s), id, err)
		}
		if id, err := Group(s); id != 0 || err != api.EINVAL {
			t.Errorf("Group of %d bytes = %d, %v", len(s), id, err)
		}
	}
}

// TestEachShortText: of all texts of one and two bytes, digits alone are ids.
func TestEachShortText(t *testing.T) {
	isDigit := func(b int) bool { return '0' <= b && b <= '9' }
	try := func(s string, n int, is bool) {
		want, wantErr := n, api.OK
		if !is {
			want, wantErr = 0, api.EINVAL
		}
		user, userErr := User(s)
		group, groupErr := Group(s)
		if user != want || userErr != wantErr || group != want || groupErr != wantErr {
			t.Errorf("of %q: %d, %v and %d, %v", s, user, userErr, group, groupErr)
		}
	}
	for a := range 256 {
		try(string([]byte{byte(a)}), a-'0', isDigit(a))
		for b := range 256 {
			try(string([]byte{byte(a), byte(b)}), 10*(a-'0')+b-'0', isDigit(a) && isDigit(b))
		}
	}
}

// TestNearNames: a name with one byte more, less, or another one, is none.
func TestNearNames(t *testing.T) {
	near := func(name string, f func(string) (int, api.Errno)) {
		for i := range len(name) + 1 {
			for b := range 256 {
				wantNoID(t, "with one more", f, name[:i]+string([]byte{byte(b)})+name[i:])
			}
		}
		for i := range len(name) {
			wantNoID(t, "with one less", f, name[:i]+name[i+1:])
			for b := range 256 {
				if byte(b) != name[i] {
					wantNoID(t, "with another one", f, name[:i]+string([]byte{byte(b)})+name[i+1:])
				}
			}
		}
	}
	for _, name := range userNames {
		near(name, User)
	}
	for _, name := range groupNames {
		near(name, Group)
	}
}

// P5.2

func TestParseExamples(t *testing.T) {
	for s, want := range map[string]told{"bob:lab": {2, 3, api.OK}, ":7": {-1, 7, api.OK}, "ann:": refused} {
		if got := parsed(s); got != want {
			t.Errorf("Parse(%q) = %v, want %v", s, got, want)
		}
	}
}

func TestParseKnown(t *testing.T) {
	for s, want := range map[string]told{
		"root": {0, -1, api.OK}, "ann": {1, -1, api.OK}, "0": {0, -1, api.OK}, "17": {17, -1, api.OK}, "65535": {65535, -1, api.OK}, "00003": {3, -1, api.OK},
		":wheel": {-1, 0, api.OK}, ":lab": {-1, 3, api.OK}, ":0": {-1, 0, api.OK}, ":65535": {-1, 65535, api.OK}, ":00000": {-1, 0, api.OK},
		"root:wheel": {0, 0, api.OK}, "cat:staff": {3, 1, api.OK}, "9:ops": {9, 2, api.OK}, "bob:9": {2, 9, api.OK}, "65535:00001": {65535, 1, api.OK}, "0:0": {0, 0, api.OK},
	} {
		if got := parsed(s); got != want {
			t.Errorf("Parse(%q) = %v, want %v", s, got, want)
		}
	}
}

func TestParseRefuses(t *testing.T) {
	for _, s := range []string{
		"", ":", "::", ":::", "ann:", "0:", "staff", "wheel:root", "ann:bob", ":ann", "ops:ops", "wheel", "wheel:", "staff:0",
		"ann:staff:", "ann::staff", ":ann:staff", "::staff", ":staff:", "ann:staff:ops", "1:2:3", "1::2", ":1:", "::1",
		"ann: staff", "ann :staff", " ann:staff", "ann:staff ", "ann staff", "ann.staff", "ann;staff", "ann,staff", "1:65536", "65536:1", "65536:65536", "1:000001", "-1:1", "1:-1", "-1:-1", "-1", ":-1", "-1:",
	} {
		if got := parsed(s); got != refused {
			t.Errorf("Parse(%q) = %v", s, got)
		}
	}
}

// TestParseNoIds: what is no id is none in each place, whatever stands beside it.
func TestParseNoIds(t *testing.T) {
	for _, s := range noIds {
		texts := []string{s + ":0", s + ":staff", s + ":" + s, ":" + s, "ann:" + s, "7:" + s, s}
		if s == "" {
			texts = []string{":", "ann:", "7:", ""} // an empty user is left out: `:0` is right
		}
		for _, text := range texts {
			if got := parsed(text); got != refused {
				t.Errorf("Parse(%q) = %v", text, got)
			}
		}
	}
}

// TestParseOfEach: users and groups, told in all ways, beside one another and alone.
func TestParseOfEach(t *testing.T) {
	texts := func(names []string) map[string]int {
		all := map[string]int{"4": 4, "10": 10, "0300": 300, "65535": 65535}
		for id, name := range names {
			all[name], all[fmt.Sprint(id)], all[fmt.Sprintf("%05d", id)] = id, id, id
		}
		return all
	}
	for user, uid := range texts(userNames) {
		if got, want := parsed(user), (told{uid, -1, api.OK}); got != want {
			t.Errorf("Parse(%q) = %v, want %v", user, got, want)
		}
		for group, gid := range texts(groupNames) {
			if got, want := parsed(user+":"+group), (told{uid, gid, api.OK}); got != want {
				t.Errorf("Parse(%q) = %v, want %v", user+":"+group, got, want)
			}
			if got, want := parsed(":"+group), (told{-1, gid, api.OK}); got != want {
				t.Errorf("Parse(%q) = %v, want %v", ":"+group, got, want)
			}
		}
	}
}

// TestParseBySigns: all texts of up to seven of some signs, read a second time by the promise's words.
func TestParseBySigns(t *testing.T) {
	numbers := numberTexts()
	want := func(s string) told {
		user, group, both := s, "", false
		if i := strings.IndexByte(s, ':'); i >= 0 {
			user, group, both = s[:i], s[i+1:], true
		}
		uid, userRight := numbers[user]
		gid, groupRight := numbers[group]
		if !both {
			gid, groupRight = -1, true
		}
		if both && user == "" {
			uid, userRight = -1, true
		}
		if !userRight || !groupRight {
			return refused
		}
		return told{uid, gid, api.OK}
	}
	var texts func(s string, more int)
	texts = func(s string, more int) {
		if got := parsed(s); got != want(s) {
			t.Fatalf("Parse(%q) = %v, want %v", s, got, want(s))
		}
		if more > 0 {
			for _, sign := range []string{":", "0", "6", "5", "a"} {
				texts(s+sign, more-1)
			}
		}
	}
	texts("", 7)
}

// P5.3

func TestShowKnown(t *testing.T) {
	for of, want := range map[[2]int]string{
		{9, -1}: "9", {0, -1}: "root", {1, -1}: "ann", {2, -1}: "bob", {3, -1}: "cat", {4, -1}: "4", {4, -5}: "4", {10, math.MinInt}: "10",
		{-1, 0}: ":wheel", {-1, 1}: ":staff", {-1, 2}: ":ops", {-1, 3}: ":lab", {-1, 4}: ":4", {-7, 300}: ":300", {math.MinInt, 65535}: ":65535",
		{0, 0}: "root:wheel", {1, 2}: "ann:ops", {2, 3}: "bob:lab", {3, 1}: "cat:staff", {0, 9}: "root:9", {9, 0}: "9:wheel", {65535, 65535}: "65535:65535", {100, 4}: "100:4",
		{-1, -1}: "", {-3, -9}: "", {math.MinInt, math.MinInt}: "",
		// Above IdMax there are digits, too.
		{65536, -1}: "65536", {-1, 65536}: ":65536", {100000, 1}: "100000:staff", {math.MaxInt, math.MaxInt}: "9223372036854775807:9223372036854775807", {1 << 32, -1}: "4294967296", {-1, 1<<32 + 1}: ":4294967297",
	} {
		if got := Show(of[0], of[1]); got != want {
			t.Errorf("Show(%d, %d) = %q, want %q", of[0], of[1], got, want)
		}
	}
}

func TestShowOfEach(t *testing.T) {
	text := func(names []string, id int) string {
		if id < 0 {
			return ""
		}
		if id < len(names) {
			return names[id]
		}
		return fmt.Sprint(id)
	}
	all := slices.Concat(shownIds, below, []int{65536, 65537, 1 << 31, 1 << 32, math.MaxInt})
	for n := range 70000 {
		for _, of := range [][2]int{{n, -1}, {-1, n}, {n, n}, {n, 2}, {3, n}} {
			want := text(userNames, of[0])
			if of[1] >= 0 {
				want += ":" + text(groupNames, of[1])
			}
			if got := Show(of[0], of[1]); got != want {
				t.Fatalf("Show(%d, %d) = %q, want %q", of[0], of[1], got, want)
			}
		}
	}
	for _, uid := range all {
		for _, gid := range all {
			want := text(userNames, uid)
			if gid >= 0 {
				want += ":" + text(groupNames, gid)
			}
			if got := Show(uid, gid); got != want {
				t.Errorf("Show(%d, %d) = %q, want %q", uid, gid, got, want)
			}
		}
	}
}

// TestSameAnswers: the order in which names are gone through isn't seen.
func TestSameAnswers(t *testing.T) {
	for range 500 {
		for id := range 5 {
			user, group := "4", "4"
			if id < 4 {
				user, group = userNames[id], groupNames[id]
			}
			if got := Show(id, id); got != user+":"+group {
				t.Fatalf("Show(%d, %d) = %q", id, id, got)
			}
		}
	}
}

// P5.4

func TestShownIsParsed(t *testing.T) {
	back := func(uid, gid int) {
		t.Helper()
		want := told{max(uid, -1), max(gid, -1), api.OK}
		if got := parsed(Show(uid, gid)); got != want {
			t.Fatalf("Parse(%q) = %v, want %v", Show(uid, gid), got, want)
		}
	}
	for id := range api.IdMax + 1 {
		back(id, -1)
		back(-1, id)
		back(id, id)
		back(id, api.IdMax-id)
	}
	for _, id := range shownIds {
		for _, other := range shownIds {
			back(id, other)
		}
		for _, none := range below {
			back(id, none)
			back(none, id)
		}
	}
}

// TestShownIsNotParsed: the bounds of what is parsed as it was.
func TestShownIsNotParsed(t *testing.T) {
	for _, of := range [][2]int{{-1, -1}, {-5, math.MinInt}, {65536, -1}, {-1, 65536}, {65536, 1}, {1, 65536}, {math.MaxInt, math.MaxInt}} {
		if got := parsed(Show(of[0], of[1])); got != refused {
			t.Errorf("Parse(%q) = %v", Show(of[0], of[1]), got)
		}
	}
}
