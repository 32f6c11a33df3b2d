package conf_test

import (
	"math"
	"math/rand"
	"strconv"
	"strings"
	"testing"

	"overfall/api"
	"overfall/codel"
	"overfall/conf"
	"overfall/fix"
	"overfall/mode"
	"overfall/pid"
)

const (
	most  = math.MaxInt64
	least = math.MinInt64
)

var names = []string{"tiers", "room", "target", "interval", "high", "low", "dwell", "horizon", "setpoint", "kp", "ki", "kd", "limit", "step", "threads", "ring"}

// given is what the chapter says of Default, by the names.
var given = []int64{4, 64, 5, 100, 50, 10, 20, 1000, 1 << 31, 1 << 32, 1 << 30, 0, 1 << 40, 64, 4, 4}

// numbered is the configuration with these numbers, in the order of the fields.
func numbered(n []int64) conf.Config {
	return conf.Config{
		Tiers: int(n[0]), Room: int(n[1]), Target: n[2], Interval: n[3], High: n[4], Low: n[5], Dwell: n[6], Horizon: n[7],
		Setpoint: fix.Q(n[8]), Kp: fix.Q(n[9]), Ki: fix.Q(n[10]), Kd: fix.Q(n[11]), Limit: fix.Q(n[12]), Step: n[13],
		Threads: int(n[14]), Ring: int(n[15]),
	}
}

// place is the index of a field.
func place(name string) int {
	for i := range names {
		if names[i] == name {
			return i
		}
	}
	panic(name)
}

// with is Default but for some fields.
func with(changes map[string]int64) conf.Config {
	n := append([]int64(nil), given...)
	for name, x := range changes {
		n[place(name)] = x
	}
	return numbered(n)
}

func text(n []int64) string {
	s := ""
	for i, x := range n {
		s += names[i] + " " + strconv.FormatInt(x, 10) + "\n"
	}
	return s
}

// some is any number: of any size, or an edge of some field.
func some(r *rand.Rand) int64 {
	edges := []int64{0, 1, -1, 2, 8, 9, 16, 17, 64, 65, 128, 1024, 1025, 1 << 40, 1<<40 + 1, 1 << 50, 1<<50 + 1, most, least}
	if r.Intn(2) == 0 {
		return edges[r.Intn(len(edges))]
	}
	return int64(r.Uint64()) >> r.Intn(64)
}

// right is a number that a valid configuration may have in this field.
func right(r *rand.Rand, name string) int64 {
	switch name {
	case "tiers":
		return 1 + r.Int63n(8)
	case "room":
		return 1 + r.Int63n(1024)
	case "target", "interval":
		return 1 + r.Int63n(1<<40)
	case "high":
		return most - r.Int63()>>1
	case "low", "dwell", "kp", "ki", "kd", "limit":
		return r.Int63() >> 1 >> r.Intn(62)
	case "horizon":
		return 1<<50 - r.Int63n(1<<49)
	case "step":
		return 1 + r.Int63n(most)
	case "threads":
		return 1 + r.Int63n(16)
	case "ring":
		return 2 << r.Intn(6)
	}
	return int64(r.Uint64())
}

// valid is Valid by the words of P13.1.
func valid(n []int64) bool {
	at := func(name string) int64 { return n[place(name)] }
	for _, c := range []struct {
		name      string
		low, high int64
	}{
		{"tiers", 1, 8}, {"room", 1, 1024}, {"target", 1, 1 << 40}, {"interval", 1, 1 << 40},
		{"low", 0, most}, {"high", at("low"), most}, {"dwell", 0, most},
		{"horizon", at("target"), 1 << 50},
		{"kp", 0, most}, {"ki", 0, most}, {"kd", 0, most}, {"limit", 0, most}, {"step", 1, most},
		{"threads", 1, 16},
	} {
		if at(c.name) < c.low || at(c.name) > c.high {
			return false
		}
	}
	switch at("ring") {
	case 2, 4, 8, 16, 32, 64:
		return true
	}
	return false
}

// P13.1

func TestDefault(t *testing.T) {
	if got := conf.Default(); got != numbered(given) {
		t.Errorf("%+v", got)
	}
	if e := conf.Default().Valid(); e != api.OK {
		t.Error(e)
	}
}

func TestZeroIsNotValid(t *testing.T) {
	if e := (conf.Config{}).Valid(); e != api.ErrArg {
		t.Error(e)
	}
}

func TestValidBounds(t *testing.T) {
	for _, c := range []struct {
		name         string
		right, wrong []int64
	}{
		{"tiers", []int64{1, 2, 7, 8}, []int64{0, -1, 9, 1 << 32, most, least}},
		{"room", []int64{1, 2, 1023, 1024}, []int64{0, -1, 1025, 1<<32 + 1, most, least}},
		{"target", []int64{1, 2, 999, 1000}, []int64{0, -1, 1001, 1<<40 + 1, most, least}}, // the horizon is 1000
		{"interval", []int64{1, 2, 1<<40 - 1, 1 << 40}, []int64{0, -1, 1<<40 + 1, most, least}},
		{"high", []int64{10, 11, 1 << 50, most}, []int64{9, 0, -1, least}}, // Low is 10
		{"low", []int64{0, 1, 49, 50}, []int64{-1, 51, most, least}},
		{"dwell", []int64{0, 1, most}, []int64{-1, least}},
		{"horizon", []int64{5, 6, 1<<50 - 1, 1 << 50}, []int64{4, 0, -1, 1<<50 + 1, most, least}}, // the target is 5
		{"setpoint", []int64{0, 1, -1, most, least}, nil},
		{"kp", []int64{0, 1, most}, []int64{-1, least}},
		{"ki", []int64{0, 1, most}, []int64{-1, least}},
		{"kd", []int64{0, 1, most}, []int64{-1, least}},
		{"limit", []int64{0, 1, most}, []int64{-1, least}},
		{"step", []int64{1, 2, most}, []int64{0, -1, least}},
		{"threads", []int64{1, 2, 15, 16}, []int64{0, -1, 17, most, least}},
		{"ring", []int64{2, 4, 8, 16, 32, 64}, []int64{0, 1, 3, 5, 6, 7, 12, 63, 65, 128, -2, -4, 1 << 62, most, least}},
	} {
		for _, x := range c.right {
			if e := with(map[string]int64{c.name: x}).Valid(); e != api.OK {
				t.Errorf("%s %d: %d", c.name, x, e)
			}
		}
		for _, x := range c.wrong {
			if e := with(map[string]int64{c.name: x}).Valid(); e != api.ErrArg {
				t.Errorf("%s %d: %d", c.name, x, e)
			}
		}
	}
}

func TestValidPairs(t *testing.T) {
	for _, c := range []struct {
		changes map[string]int64
		want    api.Errno
	}{
		{map[string]int64{"target": 1 << 40, "horizon": 1 << 40}, api.OK},
		{map[string]int64{"target": 1 << 40, "horizon": 1<<40 - 1}, api.ErrArg},
		{map[string]int64{"target": 1<<40 + 1, "horizon": 1 << 50}, api.ErrArg},
		{map[string]int64{"target": 0, "horizon": 0}, api.ErrArg},
		{map[string]int64{"target": 200, "interval": 100}, api.OK},
		{map[string]int64{"high": 0, "low": 0, "dwell": 0}, api.OK},
		{map[string]int64{"high": most, "low": most, "dwell": most}, api.OK},
		{map[string]int64{"high": -1, "low": -1}, api.ErrArg},
		{map[string]int64{"kp": 0, "ki": 0, "limit": 0}, api.OK},
		{map[string]int64{"threads": 16, "ring": 2}, api.OK}, // a ring may have fewer positions than there are threads
		{map[string]int64{"threads": 1, "ring": 64}, api.OK},
		{map[string]int64{"tiers": 0, "ring": 3}, api.ErrArg},
	} {
		if e := with(c.changes).Valid(); e != c.want {
			t.Errorf("%v: %d", c.changes, e)
		}
	}
}

func TestValidOfNumbers(t *testing.T) {
	r := rand.New(rand.NewSource(13))
	seen := map[bool]int{}
	for range 100000 {
		n := make([]int64, len(names))
		for i, name := range names {
			n[i] = right(r, name)
		}
		for range r.Intn(3) {
			n[r.Intn(len(n))] = some(r)
		}
		want := valid(n)
		seen[want]++
		if e := numbered(n).Valid(); (e == api.OK) != want || !want && e != api.ErrArg {
			t.Fatalf("%v: %d", n, e)
		}
	}
	if seen[true] < 10000 || seen[false] < 10000 {
		t.Error(seen)
	}
}

func TestMost(t *testing.T) {
	for tiers, want := range map[int64]int64{1: 128, 2: 256, 4: 512, 8: 1024, 0: 0, -1: -128, 9: 1152} {
		if got := with(map[string]int64{"tiers": tiers}).Most(); got != want {
			t.Errorf("%d tiers: %d", tiers, got)
		}
	}
}

func TestParams(t *testing.T) {
	for _, n := range [][]int64{
		given,
		{3, 102, 103, 104, 105, 106, 107, 108, 109, 110, 111, 112, 113, 114, 115, 116},
		{7, -2, -3, -4, -5, -6, -7, -8, -9, -10, -11, -12, -13, -14, -15, -16}, // the params are what the fields are, valid or not
		{0, 0, most, least, most, least, most, 0, least, most, least, most, least, most, 0, 0},
	} {
		c := numbered(n)
		if got, want := c.Codel(), (codel.Params{Target: n[2], Interval: n[3]}); got != want {
			t.Errorf("%v: %+v", n, got)
		}
		if got, want := c.Mode(), (mode.Params{High: n[4], Low: n[5], Dwell: n[6]}); got != want {
			t.Errorf("%v: %+v", n, got)
		}
		want := pid.Params{Setpoint: fix.Q(n[8]), Kp: fix.Q(n[9]), Ki: fix.Q(n[10]), Kd: fix.Q(n[11]), Limit: fix.Q(n[12]), Step: n[13], Most: 128 * n[0]}
		if got := c.Pid(); got != want {
			t.Errorf("%v: %+v", n, got)
		}
	}
}

// P13.2: Text

func TestTextOfDefault(t *testing.T) {
	want := "tiers 4\nroom 64\ntarget 5\ninterval 100\nhigh 50\nlow 10\ndwell 20\nhorizon 1000\n" +
		"setpoint 2147483648\nkp 4294967296\nki 1073741824\nkd 0\nlimit 1099511627776\nstep 64\nthreads 4\nring 4\n"
	if got := conf.Default().Text(); got != want {
		t.Errorf("%q", got)
	}
}

func TestTextOfNumbers(t *testing.T) {
	r := rand.New(rand.NewSource(132))
	for range 3000 {
		n := make([]int64, len(names))
		for i := range n {
			n[i] = some(r)
		}
		c := numbered(n)
		if got := c.Text(); got != text(n) {
			t.Fatalf("%v: %q", n, got)
		}
		if c != numbered(n) {
			t.Fatalf("%v: changed by Text", n)
		}
	}
}

// P13.2: Parse

func parsed(t *testing.T, s string, changes map[string]int64) {
	t.Helper()
	if c, e := conf.Parse(s); e != api.OK || c != with(changes) {
		t.Errorf("%q: %+v, %d", s, c, e)
	}
}

func refused(t *testing.T, s string, want api.Errno) {
	t.Helper()
	if c, e := conf.Parse(s); e != want || c != (conf.Config{}) {
		t.Errorf("%q: %+v, %d, not %d", s, c, e, want)
	}
}

func TestParseExample(t *testing.T) {
	parsed(t, "tiers 2\nroom 9\n", map[string]int64{"tiers": 2, "room": 9})
}

func TestParseLines(t *testing.T) {
	for s, changes := range map[string]map[string]int64{
		"":                                  nil,
		"\n":                                nil,
		"\n\n\n":                            nil,
		"#":                                 nil,
		"# tiers 2":                         nil,
		"#tiers 2\n":                        nil,
		"##\n#\x00\xff\r\n":                 nil,
		"tiers 2":                           {"tiers": 2},
		"tiers 2\n":                         {"tiers": 2},
		"\n\ntiers 2\n\n":                   {"tiers": 2},
		"tiers 2\n# room 9":                 {"tiers": 2},
		"# room 9\ntiers 2":                 {"tiers": 2},
		"#tiers 3\ntiers 2\n#tiers 4":       {"tiers": 2},
		"room 9\ntiers 2":                   {"tiers": 2, "room": 9},
		"tiers 4":                           nil,
		"setpoint -5":                       {"setpoint": -5},
		"setpoint 0":                        {"setpoint": 0},
		"setpoint 9223372036854775807":      {"setpoint": most},
		"setpoint -9223372036854775808":     {"setpoint": least},
		"setpoint -9223372036854775807\n":   {"setpoint": least + 1},
		"kd 10\nki 20\n":                    {"kd": 10, "ki": 20},
		"low 60\nhigh 60":                   {"low": 60, "high": 60}, // only the whole need be valid
		"target 2000\nhorizon 3000":         {"target": 2000, "horizon": 3000},
		"horizon 3\ntarget 2\n":             {"horizon": 3, "target": 2},
		"ring 64\nthreads 16\nstep 1\n\n#.": {"ring": 64, "threads": 16, "step": 1},
	} {
		parsed(t, s, changes)
	}
}

func TestParseEachField(t *testing.T) {
	r := rand.New(rand.NewSource(1321))
	for i, name := range names {
		for range 50 {
			x := right(r, name)
			if name == "target" {
				x = 1 + x%1000 // the horizon is 1000
			}
			if name == "low" {
				x %= 51 // High is 50
			}
			parsed(t, name+" "+strconv.FormatInt(x, 10), map[string]int64{names[i]: x})
		}
	}
}

func TestParseIsTheInverseOfText(t *testing.T) {
	r := rand.New(rand.NewSource(1322))
	for range 3000 {
		n := make([]int64, len(names))
		for i, name := range names {
			n[i] = right(r, name)
		}
		want := numbered(n)
		if c, e := conf.Parse(want.Text()); e != api.OK || c != want {
			t.Fatalf("%v: %+v, %d", n, c, e)
		}
		lines := strings.SplitAfter(text(n), "\n")
		r.Shuffle(len(lines), func(i, j int) { lines[i], lines[j] = lines[j], lines[i] })
		if c, e := conf.Parse(strings.Join(lines, "# any order\n")); e != api.OK || c != want {
			t.Fatalf("%v: %+v, %d", lines, c, e)
		}
	}
}

func TestParseForm(t *testing.T) {
	for _, s := range []string{
		"tiers", "tiers ", "tiers\n2", " tiers 2", "tiers  2", "tiers 2 ", "tiers 2 3", "tiers\t2", "tiers 2\r\n", "tiers=2", "2", " 2", " ", "  ", "\r\n", "\t",
		" # tiers", " #", "tiers #2", "tiers 2 # two", "tiers 2#",
		"Tiers 2", "TIERS 2", "tier 2", "tierss 2", "most 512", "codel 1", "kp2 2", "k 2", "x 1", "\x00 1", "tiers\x00 2", "Room 9", "timer 2",
		"tiers +2", "tiers 02", "tiers 00", "kd -0", "kd 00", "kd +0", "setpoint -01", "setpoint - 1", "setpoint --1", "kd -", "kd +",
		"tiers 2.0", "tiers 2e0", "tiers 0x2", "tiers 0b1", "tiers 1_0", "tiers two", "tiers \x002", "tiers 2\x00", "tiers \xb2", "tiers ٢", "tiers ２", "tiers −2",
		"limit 9223372036854775808", "limit 18446744073709551617", "limit 18446744073709551616", "setpoint -9223372036854775809", "limit 1" + strings.Repeat("0", 5000),
	} {
		refused(t, s, api.ErrText)
		refused(t, "room 9\n\n"+s, api.ErrText)
		refused(t, "# first\n"+s+"\nroom 9\n", api.ErrText)
	}
}

func TestParseTwice(t *testing.T) {
	for _, name := range names {
		n := strconv.FormatInt(given[place(name)], 10)
		parsed(t, name+" "+n, nil)
		refused(t, name+" "+n+"\n"+name+" "+n, api.ErrForm)
		refused(t, name+" "+n+"\n\n# between\nkd 0\n"+name+" 0\nkd 1\n", api.ErrForm)
		refused(t, name+" "+n+"\n"+name+" x", api.ErrText) // the form comes first
		refused(t, name+" "+n+"\n"+name, api.ErrText)
	}
	refused(t, text(given)+text(given), api.ErrForm)
}

func TestParseFirstError(t *testing.T) {
	for s, want := range map[string]api.Errno{
		"tiers 2\ntiers 2\nroom x\n":       api.ErrForm,
		"tiers 2\nroom x\ntiers 2\n":       api.ErrText,
		"x 1\nx 1":                         api.ErrText,
		"tiers x\ntiers 2\n":               api.ErrText,
		"tiers 0\ntiers 2\n":               api.ErrForm, // the first one has no error of a line
		"tiers 0\nroom x\n":                api.ErrText,
		"tiers 0\n":                        api.ErrArg,
		"tiers 0\nroom 9\n#":               api.ErrArg,
		"ring 3":                           api.ErrArg,
		"low 60":                           api.ErrArg,
		"target 2000":                      api.ErrArg,
		"horizon 4\n":                      api.ErrArg,
		"kp -1":                            api.ErrArg,
		"step 0":                           api.ErrArg,
		"tiers -9223372036854775808":       api.ErrArg,
		"room 9223372036854775807":         api.ErrArg,
		"tiers 4294967300":                 api.ErrArg, // 4 modulo 2^32
		"threads 17\nring 3\ndwell -1\n\n": api.ErrArg,
	} {
		refused(t, s, want)
	}
}

func TestParseLong(t *testing.T) {
	full := "tiers 2\n#" + strings.Repeat("x", api.MaxText-len("tiers 2\n#"))
	parsed(t, full, map[string]int64{"tiers": 2})
	refused(t, full+"\n", api.ErrLong)
	parsed(t, strings.Repeat("\n", api.MaxText), nil)
	refused(t, strings.Repeat("\n", api.MaxText+1), api.ErrLong)
	for _, s := range []string{"x", "tiers 2\ntiers 2\n", "tiers 0\n"} { // before anything else
		refused(t, s+strings.Repeat("\n", api.MaxText), api.ErrLong)
	}
	refused(t, strings.Repeat("x", api.MaxText), api.ErrText)
	refused(t, "tiers "+strings.Repeat("1", api.MaxText-len("tiers ")), api.ErrText)
	refused(t, strings.Repeat("tiers 2\n", api.MaxText/len("tiers 2\n")), api.ErrForm)
}

// canonical reports whether s is a number as Text writes it, by its characters.
func canonical(s string) bool {
	digits := strings.TrimPrefix(s, "-")
	if digits == "" || strings.Trim(digits, "0123456789") != "" || digits[0] == '0' && s != "0" {
		return false
	}
	bound := "9223372036854775807"
	if digits != s {
		bound = "9223372036854775808"
	}
	return len(digits) < len(bound) || len(digits) == len(bound) && digits <= bound
}

// after is Parse by the words of P13.2, but for ErrLong.
func after(s string) (conf.Config, api.Errno) {
	n := append([]int64(nil), given...)
	occurred := map[string]bool{}
	for _, line := range strings.Split(s, "\n") {
		if line == "" || strings.HasPrefix(line, "#") {
			continue
		}
		words := strings.Split(line, " ")
		if len(words) != 2 || !strings.Contains(" "+strings.Join(names, " ")+" ", " "+words[0]+" ") || words[0] == "" || !canonical(words[1]) {
			return conf.Config{}, api.ErrText
		}
		if occurred[words[0]] {
			return conf.Config{}, api.ErrForm
		}
		occurred[words[0]] = true
		n[place(words[0])], _ = strconv.ParseInt(words[1], 10, 64)
	}
	if !valid(n) {
		return conf.Config{}, api.ErrArg
	}
	return numbered(n), api.OK
}

func someLine(r *rand.Rand) string {
	name := names[r.Intn(len(names))]
	switch r.Intn(12) {
	case 0:
		return ""
	case 1:
		return "#" + name
	case 2:
		return name + " " + strconv.FormatInt(some(r), 10)
	}
	line := []byte(name + " " + strconv.FormatInt(right(r, name), 10))
	if r.Intn(12) == 0 {
		line[r.Intn(len(line))] = " 0-#x+9\r\n"[r.Intn(9)]
	}
	if r.Intn(40) == 0 {
		line = line[r.Intn(len(line)):]
	}
	return string(line)
}

func TestAgainstPlainWords(t *testing.T) {
	r := rand.New(rand.NewSource(1323))
	seen := map[api.Errno]int{}
	for range 100000 {
		lines := []string{}
		for range r.Intn(7) {
			lines = append(lines, someLine(r))
		}
		s := strings.Join(lines, "\n")
		got, e := conf.Parse(s)
		want, f := after(s)
		if got != want || e != f {
			t.Fatalf("%q: %+v, %d, not %+v, %d", s, got, e, want, f)
		}
		seen[e]++
	}
	for _, e := range []api.Errno{api.OK, api.ErrArg, api.ErrForm, api.ErrText} {
		if seen[e] < 1000 {
			t.Error(seen)
		}
	}
}

// P2 of the document, and its rule of values: an answer hangs on nothing but the arguments, and a change of one does not change another.
func TestSameAnswerAgain(t *testing.T) {
	first, _ := conf.Parse("tiers 2\n")
	other := first
	other.Tiers, other.Kp = 7, 7
	d := conf.Default()
	d.Room = 1
	for range 2 {
		if c, e := conf.Parse("tiers 2\n"); e != api.OK || c != first || c != with(map[string]int64{"tiers": 2}) {
			t.Fatal(c, e)
		}
		refused(t, "tiers 2\ntiers 2\n", api.ErrForm)
		parsed(t, "", nil)
		if conf.Default() != numbered(given) || first.Text() != strings.Replace(text(given), "tiers 4", "tiers 2", 1) {
			t.Fatal(conf.Default(), first.Text())
		}
	}
}
