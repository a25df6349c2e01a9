package apply

import (
	"fmt"
	"math"
	"reflect"
	"strings"
	"testing"

	"gaoler/api"
	"gaoler/clause"
	"gaoler/modes"
)

// noModes pairs numbers that are no mode with the mode that counts for them.
var noModes = map[int]int{
	-1: 4095, -2: 4094, -4095: 1, -4096: 0, -4097: 4095,
	4096: 0, 4097: 1, 8191: 4095, 8192 + 0o4755: 0o4755, -4096 + 0o640: 0o640,
	math.MaxInt: 4095, math.MinInt: 0, math.MinInt + 5: 5,
}

// umasks has ordinary ones, ones with each bit alone, and ones that have more than the nine.
var umasks = []int{
	0, 0o022, 0o077, 0o777, 0o027, 0o111, 0o444, 0o4000, 0o2000, 0o1000, 0o7000, 0o7022, 0o7777,
	1, 2, 4, 8, 16, 32, 64, 128, 256, -1, 4096, 4096 + 0o022,
}

// bitForms tells each of the twelve bits by itself: whose it is, and the Perms by which acts name it.
var bitForms = []struct{ bit, who, perm int }{
	{0o4000, 1, 16}, {0o400, 1, 4}, {0o200, 1, 2}, {0o100, 1, 1},
	{0o2000, 2, 16}, {0o040, 2, 4}, {0o020, 2, 2}, {0o010, 2, 1},
	{0o1000, 4, 32}, {0o004, 4, 4}, {0o002, 4, 2}, {0o001, 4, 1},
}

// rest is the mode that counts for a number, by division alone.
func rest(n int) int { return (n%4096 + 4096) % 4096 }

// actSlowly says bit by bit what P3.2 says, to hold Apply against it.
func actSlowly(who int, act clause.Act, mode int, dir bool, umask int) int {
	after := 0
	for _, f := range bitForms {
		named := act.Perms&f.perm != 0
		if f.perm == 1 && act.Perms&8 != 0 && (dir || mode&0o111 != 0) {
			named = true
		}
		if act.Copy != 0 {
			// The class that is copied, moved to where the others' bits stand.
			from := mode / []int{0, 64, 8, 1}[act.Copy]
			named = f.perm <= 4 && from&f.perm != 0
		}
		cleared := who == 0 || who&f.who != 0
		has := cleared
		if who == 0 && f.bit <= 0o400 && umask&f.bit != 0 {
			has = false
		}
		set := mode&f.bit != 0
		switch act.Op {
		case '+':
			set = set || named && has
		case '-':
			set = set && !(named && has)
		case '=':
			set = set && !cleared || named && has
		}
		if set {
			after += f.bit
		}
	}
	return after
}

func applySlowly(l []clause.Clause, mode int, dir bool, umask int) int {
	mode, umask = rest(mode), rest(umask)
	for _, c := range l {
		for _, act := range c.Acts {
			mode = actSlowly(c.Who, act, mode, dir, umask)
		}
	}
	return mode
}

// one is a list of one clause.
func one(who int, acts ...clause.Act) []clause.Clause {
	return []clause.Clause{{Who: who, Acts: acts}}
}

// eachAct is all acts that may be, or those with one sign alone.
func eachAct(signs string) []clause.Act {
	var acts []clause.Act
	for _, op := range []byte(signs) {
		for perms := range 64 {
			acts = append(acts, clause.Act{Op: op, Perms: perms})
		}
		for class := 1; class <= 3; class++ {
			acts = append(acts, clause.Act{Op: op, Copy: class})
		}
	}
	return acts
}

// told is what the text makes of the mode.
func told(t *testing.T, s string, mode int, dir bool, umask int) int {
	t.Helper()
	m, e := Read(s)
	if e != api.OK {
		t.Fatalf("Read(%q): %v", s, e)
	}
	return Of(m, mode, dir, umask)
}

type toldCase struct {
	s     string
	mode  int
	dir   bool
	umask int
	want  int
}

func wantTold(t *testing.T, cases []toldCase) {
	t.Helper()
	for _, c := range cases {
		if got := told(t, c.s, c.mode, c.dir, c.umask); got != c.want {
			t.Errorf("%s of %04o, dir %v, umask %03o: %04o, want %04o", c.s, c.mode, c.dir, c.umask, got, c.want)
		}
	}
}

// P3.1

func TestReadOctal(t *testing.T) {
	for mode := range 4096 {
		for s := fmt.Sprintf("%o", mode); len(s) <= 8; s = "0" + s {
			m, e := Read(s)
			if e != api.OK || !reflect.DeepEqual(m, Mode{Octal: true, Value: mode}) {
				t.Fatalf("Read(%q) = %v, %v", s, m, e)
			}
		}
	}
}

func TestReadClauses(t *testing.T) {
	for s, want := range map[string][]clause.Clause{
		"u=g":      one(1, clause.Act{Op: '=', Copy: 2}),
		"+x":       one(0, clause.Act{Op: '+', Perms: 1}),
		"=":        one(0, clause.Act{Op: '='}),
		"a+X":      one(7, clause.Act{Op: '+', Perms: 8}),
		"ug+rX,o=": {{Who: 3, Acts: []clause.Act{{Op: '+', Perms: 12}}}, {Who: 4, Acts: []clause.Act{{Op: '='}}}},
		"o-t=u+s":  one(4, clause.Act{Op: '-', Perms: 32}, clause.Act{Op: '=', Copy: 1}, clause.Act{Op: '+', Perms: 16}),
	} {
		m, e := Read(s)
		if e != api.OK || !reflect.DeepEqual(m, Mode{Clauses: want}) {
			t.Errorf("Read(%q) = %v, %v, want %v", s, m, e, want)
		}
	}
}

func TestReadWrong(t *testing.T) {
	for _, s := range []string{
		"", " ", ",", "u", "a", "x", "rwx", "u+q", "+rg", "u=gg", "u+r,", ",u+r", "+8", "-1", "+755", "-755", "=755", " 755", "u755", "u+r,755",
		"8", "9", "08", "80", "0789", "10000", "77777", "000000755", "77777777", "755 ", "755,", "755,u+x", "7+x", "8+x", "9=", "0x1", "0o7", "7u", "0,0",
		"/", ":", "/755", ":755", "\x00", "7\x00", "\xff", "7\xff", "u+\xff", "\u0660", "\u0667", "\uff17", "7\uff17", "\u00b2", "q", "drwxr-xr-x", "rwxr-xr-x",
	} {
		if m, e := Read(s); e != api.EINVAL || !reflect.DeepEqual(m, Mode{}) {
			t.Errorf("Read(%q) = %v, %v, want EINVAL", s, m, e)
		}
	}
}

// TestReadOfEachShortText goes by the first sign alone, as the promise does.
func TestReadOfEachShortText(t *testing.T) {
	const letters = "0178+-=,uogarxXt9 "
	var grow func(string)
	grow = func(s string) {
		var want Mode
		var wantErr api.Errno
		if s != "" && strings.Contains("0123456789", s[:1]) {
			want.Value, wantErr = modes.ReadOctal(s)
			want.Octal = wantErr == api.OK
		} else {
			want.Clauses, wantErr = clause.Parse(s)
		}
		if m, e := Read(s); e != wantErr || !reflect.DeepEqual(m, want) {
			t.Fatalf("Read(%q) = %v, %v, want %v, %v", s, m, e, want, wantErr)
		}
		if len(s) == 4 {
			return
		}
		for i := range len(letters) {
			grow(s + letters[i:i+1])
		}
	}
	grow("")
}

func TestReadOfEachFirstByte(t *testing.T) {
	for b := range 256 {
		m, e := Read(string([]byte{byte(b), '7'}))
		if b >= '0' && b <= '7' {
			if e != api.OK || !m.Octal || m.Value != (b-'0')*8+7 {
				t.Errorf("byte %d: %v, %v", b, m, e)
			}
		} else if e != api.EINVAL || !reflect.DeepEqual(m, Mode{}) {
			t.Errorf("byte %d: %v, %v, want EINVAL", b, m, e)
		}
	}
}

func TestReadAnswersNewMemory(t *testing.T) {
	m, _ := Read("u+r,g-w")
	m.Clauses[0].Acts[0] = clause.Act{Op: '=', Perms: 63}
	m.Clauses[1] = clause.Clause{}
	again, e := Read("u+r,g-w")
	want := Mode{Clauses: []clause.Clause{{Who: 1, Acts: []clause.Act{{Op: '+', Perms: 4}}}, {Who: 2, Acts: []clause.Act{{Op: '-', Perms: 2}}}}}
	if e != api.OK || !reflect.DeepEqual(again, want) {
		t.Errorf("%v, %v", again, e)
	}
}

func TestOfOctal(t *testing.T) {
	for value := range 4096 {
		m := Mode{Octal: true, Value: value}
		for _, mode := range []int{0, 0o7777, 0o4755, -1} {
			for _, umask := range []int{0, 0o022, 0o7777} {
				if got := Of(m, mode, value%2 == 0, umask); got != value {
					t.Fatalf("Of(%o, %o, umask %o) = %o", value, mode, umask, got)
				}
			}
		}
	}
	for value, want := range noModes {
		if got := Of(Mode{Octal: true, Value: value}, 0o640, false, 0); got != want {
			t.Errorf("Of(%d) = %o, want %o", value, got, want)
		}
	}
}

func TestOfTakesOneSideAlone(t *testing.T) {
	l := one(7, clause.Act{Op: '=', Perms: 4})
	if got := Of(Mode{Octal: true, Value: 0o711, Clauses: l}, 0o640, false, 0); got != 0o711 {
		t.Errorf("Octal, with clauses: %o", got)
	}
	if got := Of(Mode{Value: 0o711, Clauses: l}, 0o640, false, 0); got != 0o444 {
		t.Errorf("clauses, with a value: %o", got)
	}
	if got := Of(Mode{Value: 0o711}, 4096+0o640, false, 0); got != 0o640 {
		t.Errorf("a value that isn't Octal, no clauses: %o", got)
	}
	if got := Of(Mode{}, -1, true, 0); got != 0o7777 {
		t.Errorf("none at all: %o", got)
	}
}

func TestOfClausesIsApply(t *testing.T) {
	for i, act := range eachAct("+-=") {
		for who := range 8 {
			l := one(who, act)
			mode, umask, dir := rest(i*611+who), umasks[i%len(umasks)], i%2 == 0
			if got, want := Of(Mode{Clauses: l}, mode, dir, umask), Apply(l, mode, dir, umask); got != want {
				t.Fatalf("Of(%v, %o, %v, %o) = %o, want %o", l, mode, dir, umask, got, want)
			}
		}
	}
}

// P3.2

func TestExamples(t *testing.T) {
	wantTold(t, []toldCase{
		{"u=g", 0o640, false, 0, 0o440},
		{"+x", 0o644, false, 0o022, 0o755}, {"+x", 0o644, false, 0o077, 0o744},
		{"a+X", 0o644, false, 0, 0o644}, {"a+X", 0o644, true, 0, 0o755},
	})
}

func TestSigns(t *testing.T) {
	wantTold(t, []toldCase{
		{"u+x", 0o644, false, 0, 0o744}, {"g+x", 0o644, false, 0, 0o654}, {"o+x", 0o644, false, 0, 0o645}, {"a+x", 0o644, false, 0, 0o755},
		{"u-r", 0o777, false, 0, 0o377}, {"g-r", 0o777, false, 0, 0o737}, {"o-r", 0o777, false, 0, 0o773}, {"a-r", 0o777, false, 0, 0o333},
		{"u=w", 0o777, false, 0, 0o277}, {"g=w", 0o777, false, 0, 0o727}, {"o=w", 0o777, false, 0, 0o772}, {"a=w", 0o777, false, 0, 0o222},
		{"ug+w", 0o444, false, 0, 0o664}, {"uo-r", 0o777, false, 0, 0o373}, {"go=x", 0o777, false, 0, 0o711},
		{"+", 0o4751, false, 0, 0o4751}, {"-", 0o4751, false, 0, 0o4751}, {"=", 0o4751, false, 0, 0}, {"u+", 0o4751, false, 0, 0o4751}, {"a-", 0o4751, false, 0, 0o4751},
		{"u=", 0o7777, false, 0, 0o3077}, {"g=", 0o7777, false, 0, 0o5707}, {"o=", 0o7777, false, 0, 0o6770}, {"a=", 0o7777, false, 0, 0},
		{"a+rwxst", 0, false, 0, 0o7777}, {"a-rwxst", 0o7777, false, 0, 0}, {"a=rwxst", 0, false, 0, 0o7777},
		{"u+x", 0o744, false, 0, 0o744}, {"u-x", 0o644, false, 0, 0o644},
	})
}

// TestNamedOnesHeedNoUmask: just a Who of 0 leaves out what the umask has.
func TestNamedOnesHeedNoUmask(t *testing.T) {
	wantTold(t, []toldCase{
		{"u+x", 0o644, false, 0o777, 0o744}, {"a+w", 0o444, false, 0o777, 0o666}, {"a-w", 0o666, false, 0o777, 0o444}, {"a=rw", 0, false, 0o777, 0o666},
		{"ugo+w", 0o444, false, 0o022, 0o666}, {"go=u", 0o700, false, 0o077, 0o777},
	})
}

func TestNobodyNamed(t *testing.T) {
	wantTold(t, []toldCase{
		{"+w", 0o444, false, 0o022, 0o644}, {"-w", 0o777, false, 0o022, 0o577}, {"-x", 0o755, false, 0o022, 0o644}, {"-x", 0o777, false, 0o011, 0o677},
		{"=r", 0o7777, false, 0o077, 0o400}, {"=rw", 0o777, false, 0o022, 0o644}, {"=rwx", 0, false, 0o777, 0}, {"=", 0o777, false, 0o777, 0},
		// `=` clears also what the umask has.
		{"=", 0o7777, false, 0o7777, 0}, {"=x", 0o666, false, 0o666, 0o111},
		// The umask holds back R, W and X alone.
		{"+s", 0o755, false, 0o7777, 0o6755}, {"+t", 0o755, true, 0o7777, 0o1755}, {"-s", 0o6755, false, 0o7000, 0o755}, {"=st", 0o777, false, 0o7777, 0o7000},
		{"+s", 0o755, false, 0o4000, 0o6755}, {"+s", 0o755, false, 0o2000, 0o6755}, {"+t", 0o755, false, 0o1000, 0o1755},
		{"+u", 0o700, false, 0o022, 0o755}, {"-u", 0o777, false, 0o022, 0o022}, {"=u", 0o7700, false, 0o027, 0o750}, {"=g", 0o050, false, 0o101, 0o454},
		{"+X", 0o100, false, 0o010, 0o101}, {"+X", 0o600, true, 0o001, 0o710}, {"=X", 0o100, false, 0, 0o111},
	})
}

func TestCopies(t *testing.T) {
	wantTold(t, []toldCase{
		{"g=u", 0o750, false, 0, 0o770}, {"o=u", 0o750, false, 0, 0o757}, {"u=o", 0o751, false, 0, 0o151}, {"a=g", 0o751, false, 0, 0o555},
		{"u+g", 0o250, false, 0, 0o750}, {"u-g", 0o750, false, 0, 0o250}, {"go-u", 0o467, false, 0, 0o423}, {"a+o", 0o421, false, 0, 0o531}, {"a-u", 0o777, false, 0, 0},
		// A class of itself keeps its three, and loses its own bit.
		{"u=u", 0o7751, false, 0, 0o3751}, {"g=g", 0o7751, false, 0, 0o5751}, {"o=o", 0o7751, false, 0, 0o6751}, {"u-u", 0o7751, false, 0, 0o7051}, {"u+u", 0o7751, false, 0, 0o7751},
		// What is copied is three bits: never Suid, Sgid or Sticky.
		{"g=u", 0o4700, false, 0, 0o4770}, {"u=g", 0o2050, false, 0, 0o2550}, {"a=o", 0o7007, false, 0, 0o777}, {"a+u", 0o7000, false, 0, 0o7000}, {"a-u", 0o7700, false, 0, 0o7000},
		{"u=g", 0o604, false, 0, 0o004}, {"u=o,o=u", 0o702, false, 0, 0o202},
	})
}

func TestSearch(t *testing.T) {
	wantTold(t, []toldCase{
		{"a+X", 0o600, false, 0, 0o600}, {"a+X", 0o600, true, 0, 0o711}, {"a+X", 0, true, 0, 0o111}, {"a+X", 0o7666, false, 0, 0o7666},
		{"a+X", 0o100, false, 0, 0o111}, {"a+X", 0o010, false, 0, 0o111}, {"a+X", 0o001, false, 0, 0o111}, {"u+X", 0o001, false, 0, 0o101}, {"o+X", 0o010, false, 0, 0o011},
		{"a-X", 0o711, false, 0, 0o600}, {"a-X", 0o711, true, 0, 0o600}, {"g-X", 0o755, false, 0, 0o745}, {"o-X", 0o110, true, 0, 0o110},
		{"a+xX", 0o600, false, 0, 0o711}, {"a+rX", 0o200, false, 0, 0o644}, {"a+rX", 0o300, false, 0, 0o755}, {"a+rX", 0o200, true, 0, 0o755},
		// It goes by the mode ahead of its act: what `=` itself clears is still there, what an act ahead cleared isn't.
		{"a=X", 0o100, false, 0, 0o111}, {"u=X", 0o700, false, 0, 0o100}, {"u=,a+X", 0o100, false, 0, 0}, {"u-x+X", 0o100, false, 0, 0}, {"a-x,a+X", 0o755, false, 0, 0o644},
		{"u+x,a+X", 0o600, false, 0, 0o711}, {"u+x+X", 0o600, false, 0, 0o700}, {"u=g,a+X", 0o610, false, 0, 0o111}, {"a-x+X", 0o755, true, 0, 0o755},
	})
}

func TestSetAndSticky(t *testing.T) {
	wantTold(t, []toldCase{
		{"u+s", 0o755, false, 0, 0o4755}, {"g+s", 0o755, false, 0, 0o2755}, {"o+s", 0o755, false, 0, 0o755}, {"a+s", 0o755, false, 0, 0o6755}, {"ug+s", 0o755, true, 0, 0o6755},
		{"u-s", 0o7755, false, 0, 0o3755}, {"g-s", 0o7755, false, 0, 0o5755}, {"o-s", 0o7755, false, 0, 0o7755}, {"a-s", 0o7755, true, 0, 0o1755},
		{"u+t", 0o755, true, 0, 0o755}, {"g+t", 0o755, true, 0, 0o755}, {"o+t", 0o755, true, 0, 0o1755}, {"o+t", 0o755, false, 0, 0o1755}, {"a+t", 0o755, false, 0, 0o1755}, {"ug-t", 0o1755, true, 0, 0o1755}, {"o-t", 0o7755, false, 0, 0o6755},
		{"u=s", 0o755, false, 0, 0o4055}, {"g=s", 0o755, false, 0, 0o2705}, {"o=t", 0o755, false, 0, 0o1750}, {"o=s", 0o1755, false, 0, 0o750}, {"u=rwx", 0o4000, false, 0, 0o700}, {"g=rx", 0o6770, true, 0, 0o4750},
	})
}

func TestActsInOrder(t *testing.T) {
	wantTold(t, []toldCase{
		{"u+r-w=x", 0o200, false, 0, 0o100}, {"u=x+r-x", 0o200, false, 0, 0o400}, {"u-r+r", 0o400, false, 0, 0o400}, {"u+r-r", 0o400, false, 0, 0},
		{"o=g,g=", 0o754, false, 0, 0o705}, {"g=,o=g", 0o754, false, 0, 0o700}, {"u=g,g=o,o=u", 0o421, false, 0, 0o212}, {"a=r,u+w", 0o7777, false, 0, 0o644},
		{"u=rwx,go=rx", 0, false, 0o777, 0o755}, {"+w,u-w", 0o444, false, 0o022, 0o444}, {"=rw,+X", 0o777, false, 0o022, 0o644}, {"=rwx-w+t", 0, true, 0o027, 0o1550},
	})
}

// TestApplyOfEachAct holds each act of each Who against the words, bit by bit.
func TestApplyOfEachAct(t *testing.T) {
	acts := eachAct("+-=")
	for who := range 8 {
		for i, act := range acts {
			l := one(who, act)
			for mode := i % 5; mode < 4096; mode += 5 {
				umask := umasks[(mode+i)%len(umasks)]
				dir := (mode/5+i)%2 == 0
				if got, want := Apply(l, mode, dir, umask), applySlowly(l, mode, dir, umask); got != want {
					t.Fatalf("%s of %04o, dir %v, umask %o: %04o, want %04o", clause.Show(l), mode, dir, umask, got, want)
				}
			}
		}
	}
}

func TestApplyOfEachMode(t *testing.T) {
	for _, s := range []string{"+x", "-w", "=r", "a+X", "u=g", "g+o", "o-u", "=u", "u+s", "g=s", "+t", "o=", "uo=rX", "=X"} {
		l, _ := clause.Parse(s)
		for mode := range 4096 {
			for _, dir := range []bool{false, true} {
				if got, want := Apply(l, mode, dir, 0o027), applySlowly(l, mode, dir, 0o027); got != want {
					t.Fatalf("%s of %04o, dir %v: %04o, want %04o", s, mode, dir, got, want)
				}
			}
		}
	}
}

func TestApplyOfEachUmask(t *testing.T) {
	for umask := range 4096 {
		for i, act := range eachAct("+-=") {
			l := one(i*umask%3, act) // 0 most of all
			mode, dir := (umask*37+i*101)%4096, (umask+i)%2 == 0
			if got, want := Apply(l, mode, dir, umask), applySlowly(l, mode, dir, umask); got != want {
				t.Fatalf("%s of %04o, dir %v, umask %o: %04o, want %04o", clause.Show(l), mode, dir, umask, got, want)
			}
		}
	}
}

func TestApplyOfSeveral(t *testing.T) {
	acts := eachAct("+-=")
	pick := func(n int) clause.Act { return acts[n%len(acts)] }
	for n := range 40000 {
		l := []clause.Clause{
			{Who: n % 8, Acts: []clause.Act{pick(n * 13), pick(n*29 + 5)}},
			{Who: n / 8 % 8, Acts: []clause.Act{pick(n*47 + 11)}},
			{Who: n / 64 % 8, Acts: []clause.Act{pick(n*71 + 3), pick(n * 83), pick(n*97 + 1)}},
		}[:1+n%3]
		mode, umask, dir := n*1237%4096, umasks[n%len(umasks)], n/2%2 == 0
		if got, want := Apply(l, mode, dir, umask), applySlowly(l, mode, dir, umask); got != want {
			t.Fatalf("%s of %04o, dir %v, umask %o: %04o, want %04o", clause.Show(l), mode, dir, umask, got, want)
		}
	}
}

func TestApplyOfNoMode(t *testing.T) {
	for _, s := range []string{"+x", "=", "u=g", "a+X", "-w", "+st", "o="} {
		l, _ := clause.Parse(s)
		for n, is := range noModes {
			if got, want := Apply(l, n, false, 0o022), Apply(l, is, false, 0o022); got != want {
				t.Errorf("%s of %d: %04o, want %04o", s, n, got, want)
			}
			if got, want := Apply(l, 0o640, false, n), Apply(l, 0o640, false, is); got != want {
				t.Errorf("%s under %d: %04o, want %04o", s, n, got, want)
			}
		}
	}
}

// wrongLists is lists that aren't Right, some of them by their last thing alone.
func wrongLists() [][]clause.Clause {
	good := clause.Act{Op: '=', Perms: 7}
	lists := [][]clause.Clause{nil, {}, {{}}, {{Who: 7}}, {{Who: 1, Acts: []clause.Act{}}}}
	for _, who := range []int{-1, 8, 15, math.MaxInt, math.MinInt} {
		lists = append(lists, one(who, good))
	}
	for _, bad := range []clause.Act{
		{}, {Perms: 7}, {Copy: 1}, {Op: '*', Perms: 7}, {Op: 'r'}, {Op: 255, Perms: 1},
		{Op: '=', Perms: -1}, {Op: '=', Perms: 64}, {Op: '+', Perms: math.MaxInt}, {Op: '=', Copy: -1}, {Op: '=', Copy: 4}, {Op: '+', Copy: math.MinInt}, {Op: '=', Perms: 7, Copy: 1},
	} {
		lists = append(lists, one(7, bad), one(0, bad), one(7, good, bad), one(7, bad, good))
	}
	for _, l := range lists {
		if len(l) > 0 {
			lists = append(lists, append(one(7, good), l...), append(l[:len(l):len(l)], one(7, good)...))
		}
	}
	return lists
}

func TestApplyOfWrong(t *testing.T) {
	for _, l := range wrongLists() {
		for _, mode := range []int{0, 0o640, 0o7777} {
			if got := Apply(l, mode, true, 0); got != mode {
				t.Errorf("Apply(%v, %o) = %o", l, mode, got)
			}
			if got := Of(Mode{Value: 0o111, Clauses: l}, mode, true, 0); got != mode {
				t.Errorf("Of(%v, %o) = %o", l, mode, got)
			}
		}
		for n, is := range noModes {
			if got := Apply(l, n, false, n); got != is {
				t.Errorf("Apply(%v, %d) = %o, want %o", l, n, got, is)
			}
		}
	}
}

func TestArgumentsStay(t *testing.T) {
	make3 := func() []clause.Clause {
		return []clause.Clause{{Who: 3, Acts: []clause.Act{{Op: '+', Perms: 12}, {Op: '=', Copy: 1}}}, {Who: 7, Acts: []clause.Act{{Op: '='}}}, {Acts: []clause.Act{{Op: '-', Perms: 33}}}}
	}
	l := make3()
	first := Apply(l, 0o751, true, 0o022)
	again := Of(Mode{Clauses: l}, 0o751, true, 0o022)
	if first != again || !reflect.DeepEqual(l, make3()) {
		t.Errorf("%o, then %o; the clauses are now %v", first, again, l)
	}
}

func TestApplyLong(t *testing.T) {
	const n = 20000
	m, e := Read(strings.Repeat("u+x-x,", n) + "g" + strings.Repeat("=u+o", n) + strings.Repeat(",a=u", n) + ",+x")
	if e != api.OK || len(m.Clauses) != 2*n+2 {
		t.Fatalf("%v, %d clauses", e, len(m.Clauses))
	}
	if got := Of(m, 0o640, false, 0o022); got != 0o777 {
		t.Errorf("%o", got)
	}
}

// P3.3

func TestBitsOfOthersStay(t *testing.T) {
	theirs := []int{0, 0o4700, 0o2070, 0o6770, 0o1007, 0o5707, 0o3077, 0o7777}
	for who := 1; who < 8; who++ {
		for i, act := range eachAct("+-=") {
			for mode := i % 3; mode < 4096; mode += 3 {
				after := Apply(one(who, act), mode, mode%2 == 0, umasks[i%len(umasks)])
				if (after^mode)&^theirs[who] != 0 {
					t.Fatalf("Who %d, %v, of %04o: %04o", who, act, mode, after)
				}
			}
		}
	}
}

func TestPlusLosesAndMinusWinsNone(t *testing.T) {
	plus, minus := eachAct("+"), eachAct("-")
	for who := range 8 {
		for i := range plus {
			next := (i*5 + who) % len(plus)
			more := append(one(who, plus[i], plus[next]), one(7-who, plus[next])...)
			less := append(one(who, minus[i], minus[next]), one(7-who, minus[next])...)
			umask := umasks[(i+who)%len(umasks)]
			for mode := i % 7; mode < 4096; mode += 7 {
				if after := Apply(more, mode, mode%2 == 0, umask); mode&^after != 0 {
					t.Fatalf("%s of %04o under %o: %04o", clause.Show(more), mode, umask, after)
				}
				if after := Apply(less, mode, mode%2 == 0, umask); after&^mode != 0 {
					t.Fatalf("%s of %04o under %o: %04o", clause.Show(less), mode, umask, after)
				}
			}
		}
	}
}
