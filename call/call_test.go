package call_test

import (
	"bytes"
	"math"
	"math/big"
	"math/rand"
	"slices"
	"testing"

	"overfall/api"
	"overfall/call"
	"overfall/core"
	"overfall/gate"
)

// coded restates how a number is encoded, by its decimal value alone.
func coded(n int64) []byte {
	value := new(big.Int).Lsh(big.NewInt(n), 1)
	if n < 0 {
		value.Sub(big.NewInt(-1), big.NewInt(n))
		value.Lsh(value, 1)
		value.Add(value, big.NewInt(1))
	}
	var p []byte
	for first := true; first || value.Sign() > 0; first = false {
		rest := new(big.Int)
		value.DivMod(value, big.NewInt(128), rest)
		p = append(p, byte(rest.Int64()))
	}
	for i := range p[:len(p)-1] {
		p[i] += 0x80
	}
	return p
}

func joined(parts ...[]byte) []byte { return bytes.Join(parts, nil) }

// filled is so many times the same byte, and then others.
func filled(count int, b byte, others ...byte) []byte {
	return append(bytes.Repeat([]byte{b}, count), others...)
}

// edges are numbers at which the number of bytes changes, and those beside them.
func edges() []int64 {
	list := []int64{0, 1, -1, 2, -2, 100, -100, math.MaxInt64, math.MinInt64, math.MaxInt64 - 1, math.MinInt64 + 1}
	for bit := range 63 {
		n := int64(1) << bit
		list = append(list, n-1, n, n+1, -n-1, -n, -n+1)
	}
	return list
}

func randomNumber(r *rand.Rand) int64 { return int64(r.Uint64()) >> r.Intn(64) }

func randomOp(r *rand.Rand) core.Op {
	return core.Op{Kind: byte(r.Intn(256)), Tier: int(randomNumber(r)), Cohort: int(randomNumber(r)), N: randomNumber(r)}
}

func randomResult(r *rand.Rand) core.Result {
	return core.Result{
		Answer: byte(r.Intn(256)), Ticket: r.Uint64() >> r.Intn(64),
		Tier: int(randomNumber(r)), Cohort: int(randomNumber(r)), Sojourn: randomNumber(r),
	}
}

func codedOp(op core.Op) []byte {
	return joined([]byte{op.Kind}, coded(int64(op.Tier)), coded(int64(op.Cohort)), coded(op.N))
}

func codedResult(r core.Result) []byte {
	return joined([]byte{r.Answer}, coded(int64(r.Ticket)), coded(int64(r.Tier)), coded(int64(r.Cohort)), coded(r.Sojourn))
}

// P18.1

func TestNumber(t *testing.T) {
	for _, c := range []struct {
		n    int64
		want []byte
	}{
		{0, []byte{0}},
		{-1, []byte{1}},
		{1, []byte{2}},
		{-2, []byte{3}},
		{63, []byte{0x7e}},
		{-64, []byte{0x7f}},
		{64, []byte{0x80, 1}},
		{-65, []byte{0x81, 1}},
		{65, []byte{0x82, 1}},
		{127, []byte{0xfe, 1}},
		{-128, []byte{0xff, 1}},
		{128, []byte{0x80, 2}},
		{8191, []byte{0xfe, 0x7f}},
		{-8192, []byte{0xff, 0x7f}},
		{8192, []byte{0x80, 0x80, 1}},
		{-8193, []byte{0x81, 0x80, 1}},
		{1 << 55, filled(8, 0x80, 1)},
		{1<<62 - 1, joined([]byte{0xfe}, filled(7, 0xff, 0x7f))},
		{-1 << 62, filled(8, 0xff, 0x7f)},
		{1 << 62, filled(9, 0x80, 1)},
		{-1<<62 - 1, joined([]byte{0x81}, filled(8, 0x80, 1))},
		{math.MaxInt64, joined([]byte{0xfe}, filled(8, 0xff, 1))},
		{math.MinInt64, filled(9, 0xff, 1)},
	} {
		if got := call.Number(nil, c.n); !bytes.Equal(got, c.want) {
			t.Errorf("%d: % x, not % x", c.n, got, c.want)
		}
		if n, size, e := call.Read(c.want); n != c.n || size != len(c.want) || e != api.OK {
			t.Errorf("% x: %d, %d, %d, not %d", c.want, n, size, e, c.n)
		}
	}
}

func sameNumber(t *testing.T, n int64) {
	t.Helper()
	want := coded(n)
	if got := call.Number(nil, n); !bytes.Equal(got, want) {
		t.Fatalf("%d: % x, not % x", n, got, want)
	}
	for _, after := range [][]byte{nil, {0}, {0x7f}, {0x80}, {0xff, 0xff}, want} {
		if got, size, e := call.Read(joined(want, after)); got != n || size != len(want) || e != api.OK {
			t.Fatalf("%d, % x before % x: %d, %d, %d", n, want, after, got, size, e)
		}
	}
	for size := range want {
		e := api.Errno(api.ErrForm)
		if size == 0 {
			e = api.ErrEmpty
		}
		noNumber(t, want[:size], e)
	}
}

// noNumber holds Read against an error, without other results.
func noNumber(t *testing.T, p []byte, want api.Errno) {
	t.Helper()
	if n, size, e := call.Read(p); n != 0 || size != 0 || e != want {
		t.Errorf("% x: %d, %d, %d, not %d", p, n, size, e, want)
	}
}

func TestNumbers(t *testing.T) {
	for _, n := range edges() {
		sameNumber(t, n)
	}
	for n := int64(-20000); n <= 20000; n++ {
		sameNumber(t, n)
	}
	r := rand.New(rand.NewSource(18))
	for range 20000 {
		sameNumber(t, randomNumber(r))
	}
}

func TestNumberFollows(t *testing.T) {
	for _, p := range [][]byte{{}, {0}, {0xff}, {1, 2, 3}, filled(500, 0x80)} {
		for _, n := range []int64{0, -1, 64, math.MinInt64} {
			if got, want := call.Number(p, n), joined(p, coded(n)); !bytes.Equal(got, want) {
				t.Errorf("% x, not % x", got, want)
			}
		}
	}
}

func TestReadErrors(t *testing.T) {
	noNumber(t, nil, api.ErrEmpty)
	noNumber(t, []byte{}, api.ErrEmpty)
	for _, b := range []byte{0x80, 0x81, 0xfe, 0xff} {
		for size := 1; size <= 9; size++ {
			noNumber(t, filled(size, b), api.ErrForm)    // incomplete
			noNumber(t, filled(size, b, 0), api.ErrForm) // more bytes than necessary
			noNumber(t, filled(size, b, 0, 5), api.ErrForm)
		}
		for last := 2; last < 256; last++ {
			noNumber(t, filled(9, b, byte(last)), api.ErrOver)
			noNumber(t, filled(9, b, byte(last), 0), api.ErrOver)
			noNumber(t, filled(9, b, byte(last), 1), api.ErrOver)
		}
		for size := 10; size < 40; size++ {
			noNumber(t, filled(size, b), api.ErrOver)
			noNumber(t, filled(size, b, 0), api.ErrOver)
			noNumber(t, filled(size, b, 1), api.ErrOver)
		}
	}
	noNumber(t, []byte{0x80, 0}, api.ErrForm)
	noNumber(t, []byte{0xff, 0x80, 0, 1}, api.ErrForm)
}

func TestTenBytes(t *testing.T) {
	for _, c := range []struct {
		p    []byte
		want int64
	}{
		{filled(9, 0x80, 1), 1 << 62},
		{filled(9, 0xff, 1), math.MinInt64},
		{joined([]byte{0xfe}, filled(8, 0xff, 1)), math.MaxInt64},
	} {
		for _, after := range [][]byte{nil, {0}, {0xff}} {
			if n, size, e := call.Read(joined(c.p, after)); n != c.want || size != 10 || e != api.OK {
				t.Errorf("% x: %d, %d, %d", c.p, n, size, e)
			}
		}
	}
}

// TestReadOfFewBytes: of all that there are, just those that Number gives are read.
func TestReadOfFewBytes(t *testing.T) {
	numbers := map[string]int64{}
	for n := int64(-70000); n <= 70000; n++ {
		numbers[string(coded(n))] = n
	}
	for a := range 256 {
		p := []byte{byte(a)}
		if a < 0x80 {
			if n, size, e := call.Read(p); n != numbers[string(p)] || size != 1 || e != api.OK {
				t.Errorf("% x: %d, %d, %d", p, n, size, e)
			}
			continue
		}
		noNumber(t, p, api.ErrForm)
		for b := range 256 {
			p := []byte{byte(a), byte(b)}
			want, ok := numbers[string(p)]
			if !ok {
				noNumber(t, p, api.ErrForm)
				continue
			}
			if n, size, e := call.Read(p); n != want || size != 2 || e != api.OK {
				t.Errorf("% x: %d, %d, %d", p, n, size, e)
			}
		}
	}
}

// TestReadOfAnyBytes: whatever is read is what Number gives.
func TestReadOfAnyBytes(t *testing.T) {
	r := rand.New(rand.NewSource(19))
	met := map[api.Errno]int{}
	for range 200000 {
		p := make([]byte, r.Intn(14))
		for i := range p {
			p[i] = byte(r.Intn(256)) | 0x80
			if r.Intn(9) == 0 {
				p[i] = byte(r.Intn(3))
			}
		}
		n, size, e := call.Read(p)
		met[e]++
		if e != api.OK {
			noNumber(t, p, e)
			continue
		}
		if !bytes.Equal(coded(n), p[:size]) {
			t.Fatalf("% x is read as %d, in %d bytes", p, n, size)
		}
	}
	for _, e := range []api.Errno{api.OK, api.ErrEmpty, api.ErrForm, api.ErrOver} {
		if met[e] < 100 {
			t.Error("error", e, "was met too seldom:", met[e])
		}
	}
}

// P18.2

func TestOp(t *testing.T) {
	for _, c := range []struct {
		op   core.Op
		want []byte
	}{
		{core.Op{}, []byte{0, 0, 0, 0}},
		{core.Op{Kind: core.Poll}, []byte{1, 0, 0, 0}},
		{core.Op{Kind: core.Submit, Tier: 1, Cohort: 2, N: 50}, []byte{0, 2, 4, 100}},
		{core.Op{Kind: core.Submit, Tier: 3, Cohort: 127, N: 64}, []byte{0, 6, 0xfe, 1, 0x80, 1}},
		{core.Op{Kind: core.Drain, N: -1}, []byte{3, 0, 0, 1}},
		{core.Op{Kind: 128, Tier: -1, Cohort: -2, N: -65}, []byte{0x80, 1, 3, 0x81, 1}},
		{core.Op{Kind: 255, Tier: math.MinInt}, joined([]byte{255}, filled(9, 0xff, 1, 0, 0))},
	} {
		if got := call.Op(nil, c.op); !bytes.Equal(got, c.want) {
			t.Errorf("%+v: % x, not % x", c.op, got, c.want)
		}
		sameOp(t, c.op)
	}
}

func sameOp(t *testing.T, op core.Op) {
	t.Helper()
	want := codedOp(op)
	if got := call.Op(nil, op); !bytes.Equal(got, want) {
		t.Fatalf("%+v: % x, not % x", op, got, want)
	}
	for _, after := range [][]byte{nil, {0}, {0x80}, want} {
		if got, size, e := call.ReadOp(joined(want, after)); got != op || size != len(want) || e != api.OK {
			t.Fatalf("%+v before % x: %+v, %d, %d", op, after, got, size, e)
		}
	}
	for size := range want {
		e := api.Errno(api.ErrForm)
		if size == 0 {
			e = api.ErrEmpty
		}
		noOp(t, want[:size], e)
	}
}

func noOp(t *testing.T, p []byte, want api.Errno) {
	t.Helper()
	if op, size, e := call.ReadOp(p); op != (core.Op{}) || size != 0 || e != want {
		t.Errorf("% x: %+v, %d, %d, not %d", p, op, size, e, want)
	}
}

func TestResult(t *testing.T) {
	for _, c := range []struct {
		r    core.Result
		want []byte
	}{
		{core.Result{}, []byte{0, 0, 0, 0, 0}},
		{core.Result{Answer: gate.Done}, []byte{10, 0, 0, 0, 0}},
		{core.Result{Answer: gate.Dispatched, Ticket: 1, Tier: 2, Cohort: 3, Sojourn: 64}, []byte{7, 2, 4, 6, 0x80, 1}},
		{core.Result{Answer: 255, Ticket: math.MaxUint64, Tier: -1, Cohort: -2, Sojourn: -3}, []byte{255, 1, 1, 3, 5}},
		{core.Result{Ticket: math.MaxUint64 - 1}, []byte{0, 3, 0, 0, 0}},
		{core.Result{Ticket: 1 << 63}, joined([]byte{0}, filled(9, 0xff, 1, 0, 0, 0))},
		{core.Result{Ticket: 1<<63 - 1}, joined([]byte{0, 0xfe}, filled(8, 0xff, 1, 0, 0, 0))},
	} {
		if got := call.Result(nil, c.r); !bytes.Equal(got, c.want) {
			t.Errorf("%+v: % x, not % x", c.r, got, c.want)
		}
		sameResult(t, c.r)
	}
}

func sameResult(t *testing.T, r core.Result) {
	t.Helper()
	want := codedResult(r)
	if got := call.Result(nil, r); !bytes.Equal(got, want) {
		t.Fatalf("%+v: % x, not % x", r, got, want)
	}
	for _, after := range [][]byte{nil, {0}, {0x80}, want} {
		if got, size, e := call.ReadResult(joined(want, after)); got != r || size != len(want) || e != api.OK {
			t.Fatalf("%+v before % x: %+v, %d, %d", r, after, got, size, e)
		}
	}
	for size := range want {
		e := api.Errno(api.ErrForm)
		if size == 0 {
			e = api.ErrEmpty
		}
		noResult(t, want[:size], e)
	}
}

func noResult(t *testing.T, p []byte, want api.Errno) {
	t.Helper()
	if r, size, e := call.ReadResult(p); r != (core.Result{}) || size != 0 || e != want {
		t.Errorf("% x: %+v, %d, %d, not %d", p, r, size, e, want)
	}
}

// TestAllKindsAndAnswers: whether or not anybody means them.
func TestAllKindsAndAnswers(t *testing.T) {
	for b := range 256 {
		sameOp(t, core.Op{Kind: byte(b), Tier: 1, Cohort: 2, N: 3})
		sameResult(t, core.Result{Answer: byte(b), Ticket: 1, Tier: 2, Cohort: 3, Sojourn: 4})
	}
}

func TestEachField(t *testing.T) {
	for _, n := range edges() {
		sameOp(t, core.Op{Tier: int(n)})
		sameOp(t, core.Op{Cohort: int(n)})
		sameOp(t, core.Op{N: n})
		sameOp(t, core.Op{Kind: core.Drain, Tier: int(n), Cohort: int(n), N: n})
		sameResult(t, core.Result{Ticket: uint64(n)})
		sameResult(t, core.Result{Tier: int(n)})
		sameResult(t, core.Result{Cohort: int(n)})
		sameResult(t, core.Result{Sojourn: n})
		sameResult(t, core.Result{Answer: gate.Full, Ticket: uint64(n), Tier: int(n), Cohort: int(n), Sojourn: n})
	}
}

func TestRandomFields(t *testing.T) {
	r := rand.New(rand.NewSource(20))
	for range 3000 {
		sameOp(t, randomOp(r))
		sameResult(t, randomResult(r))
	}
}

// TestFirstFieldWithAnError: the fields before it are right, those after it are not looked at.
func TestFirstFieldWithAnError(t *testing.T) {
	right := [][]byte{{5}, {0x80, 1}, filled(9, 0xff, 1)}
	form := []byte{0x80, 0}
	over := filled(9, 0x80, 2)
	for _, field := range right {
		before := []byte{0xff}
		for fields := range 4 {
			for _, wrong := range []struct {
				p []byte
				e api.Errno
			}{
				{joined(form, over), api.ErrForm},
				{joined(over, form), api.ErrOver},
				{filled(10, 0x80, 0), api.ErrOver},
				{nil, api.ErrForm},
				{[]byte{0x80}, api.ErrForm},
				{filled(9, 0xff), api.ErrForm},
			} {
				p := joined(before, wrong.p)
				if fields < 3 {
					noOp(t, p, wrong.e)
				}
				noResult(t, p, wrong.e)
			}
			before = joined(before, field)
		}
		op, size, e := call.ReadOp(joined(before, over)) // an operation has only three numbers
		if op.Kind != 0xff || size != 1+3*len(field) || e != api.OK {
			t.Error(op, size, e)
		}
		if r, size, e := call.ReadResult(joined(before, over)); r.Answer != 0xff || size != 1+4*len(field) || e != api.OK {
			t.Error(r, size, e)
		}
	}
	noOp(t, nil, api.ErrEmpty)
	noResult(t, nil, api.ErrEmpty)
}

func TestFollows(t *testing.T) {
	op := core.Op{Kind: core.Sample, N: 77}
	r := core.Result{Answer: gate.Admitted, Ticket: 300}
	for _, p := range [][]byte{{}, {0}, {0xff, 0x80}, filled(500, 3)} {
		if got, want := call.Op(p, op), joined(p, codedOp(op)); !bytes.Equal(got, want) {
			t.Errorf("% x, not % x", got, want)
		}
		if got, want := call.Result(p, r), joined(p, codedResult(r)); !bytes.Equal(got, want) {
			t.Errorf("% x, not % x", got, want)
		}
	}
}

func sameScript(t *testing.T, l []core.Op) {
	t.Helper()
	var want []byte
	for _, op := range l {
		want = append(want, codedOp(op)...)
	}
	if got := call.Script(l); !bytes.Equal(got, want) {
		t.Fatalf("%+v: % x, not % x", l, got, want)
	}
	if got, e := call.ReadScript(want); !slices.Equal(got, l) || e != api.OK {
		t.Fatalf("% x: %+v, %d, not %+v", want, got, e, l)
	}
}

func noScript(t *testing.T, p []byte, want api.Errno) {
	t.Helper()
	if l, e := call.ReadScript(p); len(l) != 0 || e != want {
		t.Errorf("% x: %+v, %d, not %d", p, l, e, want)
	}
}

func TestScript(t *testing.T) {
	sameScript(t, nil)
	sameScript(t, []core.Op{})
	sameScript(t, []core.Op{{}})
	sameScript(t, []core.Op{{}, {}, {}})
	r := rand.New(rand.NewSource(21))
	for range 500 {
		var l []core.Op
		for range r.Intn(30) {
			l = append(l, randomOp(r))
		}
		sameScript(t, l)
	}
}

func TestEmptyScript(t *testing.T) {
	noScript(t, nil, api.OK)
	noScript(t, []byte{}, api.OK)
	if got := call.Script(nil); len(got) != 0 {
		t.Errorf("% x", got)
	}
}

// TestScriptErrors: the first one, without the operations before it.
func TestScriptErrors(t *testing.T) {
	op := codedOp(core.Op{Kind: 1, Tier: 2, Cohort: 3, N: 4})
	form := []byte{1, 0x80, 0}
	over := joined([]byte{1}, filled(9, 0x80, 2))
	var before []byte
	for range 4 {
		noScript(t, joined(before, form), api.ErrForm)
		noScript(t, joined(before, over), api.ErrOver)
		noScript(t, joined(before, form, over), api.ErrForm)
		noScript(t, joined(before, over, form), api.ErrOver)
		for size := 1; size < len(op); size++ {
			noScript(t, joined(before, op[:size]), api.ErrForm)
		}
		before = joined(before, op)
		if l, e := call.ReadScript(before); len(l) != len(before)/len(op) || e != api.OK {
			t.Error(l, e)
		}
	}
}

// TestAnyScript: whatever is read is what Script gives.
func TestAnyScript(t *testing.T) {
	r := rand.New(rand.NewSource(22))
	met := map[api.Errno]int{}
	for range 50000 {
		p := make([]byte, r.Intn(20))
		for i := range p {
			p[i] = byte(r.Intn(128))
			if r.Intn(5) == 0 {
				p[i] = byte(r.Intn(256))
			}
		}
		if r.Intn(10) == 0 {
			p = append(p, filled(12, 0xaa)...)
		}
		l, e := call.ReadScript(p)
		met[e]++
		if e == api.OK && !bytes.Equal(call.Script(l), p) {
			t.Fatalf("% x is read as %+v", p, l)
		}
		if e != api.OK {
			noScript(t, p, e)
		}
		_, _, first := call.ReadOp(p)
		if first != api.OK && first != api.ErrEmpty && first != e {
			t.Fatalf("% x: %d, but of its first operation %d", p, e, first)
		}
	}
	for _, e := range []api.Errno{api.OK, api.ErrForm, api.ErrOver} {
		if met[e] < 100 {
			t.Error("error", e, "was met too seldom:", met[e])
		}
	}
}

// TestLongScript: the time that it takes grows no faster than its length.
func TestLongScript(t *testing.T) {
	l := make([]core.Op, 300000)
	for n := range l {
		l[n] = core.Op{Kind: byte(n), Tier: n % 8, Cohort: n % 128, N: int64(n) << 20}
	}
	p := call.Script(l)
	if got, e := call.ReadScript(p); !slices.Equal(got, l) || e != api.OK {
		t.Error(len(got), e)
	}
}

// TestSpareCapacityStays: what is behind an argument is the caller's.
func TestSpareCapacityStays(t *testing.T) {
	op := core.Op{Kind: 9, Tier: 1000, Cohort: -1000, N: math.MinInt64}
	r := core.Result{Answer: 9, Ticket: 1 << 63, Tier: 5, Cohort: 6, Sojourn: math.MaxInt64}
	for _, write := range []func(p []byte) []byte{
		func(p []byte) []byte { return call.Number(p, math.MinInt64) },
		func(p []byte) []byte { return call.Number(p, 0) },
		func(p []byte) []byte { return call.Op(p, op) },
		func(p []byte) []byte { return call.Op(p, core.Op{}) },
		func(p []byte) []byte { return call.Result(p, r) },
		func(p []byte) []byte { return call.Result(p, core.Result{}) },
	} {
		for size := range 70 {
			whole := filled(70, 0xee)
			got := write(whole[:size])
			again := write(whole[:size])
			if !bytes.Equal(whole, filled(70, 0xee)) {
				t.Fatalf("% x", whole)
			}
			want := slices.Clone(again)
			for _, p := range [][]byte{whole, got} {
				for i := range p[:cap(p)] {
					p[:cap(p)][i] = 0x11
				}
			}
			if !bytes.Equal(again, want) {
				t.Fatal("a result shares memory")
			}
			for i := range again[:cap(again)] {
				again[:cap(again)][i] = 0x22
			}
			if !bytes.Equal(whole, filled(70, 0x11)) {
				t.Fatal("a result shares memory with the argument")
			}
		}
	}
}

// TestScriptsAreNewMemory: of arguments and of results.
func TestScriptsAreNewMemory(t *testing.T) {
	l := []core.Op{{Kind: 1}, {Kind: 2, N: 5}, {Kind: 3}}
	a, b := call.Script(l), call.Script(l)
	p := slices.Clone(b)
	for i := range a[:cap(a)] {
		a[:cap(a)][i] = 0x80
	}
	if !bytes.Equal(b, p) || l[1] != (core.Op{Kind: 2, N: 5}) {
		t.Error(b, l)
	}
	x, _ := call.ReadScript(p)
	y, _ := call.ReadScript(p)
	for i := range x[:cap(x)] {
		x[:cap(x)][i] = core.Op{Kind: 99}
	}
	clear(p)
	if !slices.Equal(y, l) {
		t.Error(y)
	}
}

// TestArgumentsStay: reading writes nothing.
func TestArgumentsStay(t *testing.T) {
	r := rand.New(rand.NewSource(23))
	for range 2000 {
		whole := make([]byte, 40)
		for i := range whole {
			whole[i] = byte(r.Intn(256))
		}
		before := slices.Clone(whole)
		p := whole[:r.Intn(30)]
		call.Read(p)
		call.ReadOp(p)
		call.ReadResult(p)
		call.ReadScript(p)
		if !bytes.Equal(whole, before) {
			t.Fatalf("% x, not % x", whole, before)
		}
	}
	l := make([]core.Op, 3, 9)
	call.Script(l)
	if !slices.Equal(l[:9], make([]core.Op, 9)) {
		t.Error(l[:9])
	}
}
