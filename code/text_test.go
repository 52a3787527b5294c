package code_test

import (
	"fmt"
	"math"
	"math/rand"
	"strings"
	"testing"

	"rung/api"
	"rung/code"
)

// words are the chapter's, in the order in which it tells them.
const words = "push load store loadat checkat storeat neg not apply convert shift abs min max sel dup drop jump zero other step call end pick"

func TestWords(t *testing.T) {
	for i, word := range strings.Fields(words) {
		got := code.Text(over(nil, ins(api.OpPush+i, 1, -2, 3, "")))
		if want := "0 " + word + " 1 -2 3\n"; got != want {
			t.Errorf("P20.2: %q, wanted %q", got, want)
		}
	}
	for _, n := range append(odd, api.OpPick+1, 25, 99) {
		if n >= api.OpPush && n <= api.OpPick {
			continue
		}
		if got := code.Text(over(nil, ins(n, 0, 1, 0, "x"))); got != "0 ? 0 1 0 x\n" {
			t.Errorf("P20.2: %d: %q", n, got)
		}
	}
}

func TestText(t *testing.T) {
	for _, x := range []struct {
		l    []api.Ins
		want string
	}{
		{nil, ""},
		{[]api.Ins{}, ""},
		{[]api.Ins{{}}, "0 ? 0 0 0\n"},
		{join(ins(api.OpPush, api.KDint, 0, 5, ""), op(api.OpStore, 0), end), "0 push 4 0 5\n1 store 0 0 0\n2 end 0 0 0\n"},
		{join(ins(api.OpShift, api.KWord, 0, 0, "ROL"), ins(api.OpCall, 12, 0, 0, "R_TRIG")), "0 shift 9 0 0 ROL\n1 call 12 0 0 R_TRIG\n"},
		{join(ins(api.OpEnd, math.MinInt, math.MaxInt, math.MinInt64, "")), "0 end -9223372036854775808 9223372036854775807 -9223372036854775808\n"},
		{join(ins(api.OpEnd, -1, 10, math.MaxInt64, " a\nb ")), "0 end -1 10 9223372036854775807  a\nb \n"},
	} {
		if got := code.Text(over(nil, x.l...)); got != x.want {
			t.Errorf("P20.2: %q, wanted %q", got, x.want)
		}
	}
	// The cells are nothing to it, and neither is what is wrong.
	if got := code.Text(over([]int{99, -1}, op(api.OpLoad, 7))); got != "0 load 7 0 0\n" {
		t.Errorf("P20.2: %q", got)
	}
}

func TestLongText(t *testing.T) {
	var want strings.Builder
	l := times(api.MaxCode+100, end)
	for i := range l {
		fmt.Fprintf(&want, "%d end 0 0 0\n", i)
	}
	if got := code.Text(over(nil, l...)); got != want.String() {
		t.Errorf("P20.2: another text of %d instructions", len(l))
	}
}

func TestAnyText(t *testing.T) {
	r := rand.New(rand.NewSource(202))
	all := strings.Fields("? " + words)
	for range 2000 {
		var want strings.Builder
		l := make([]api.Ins, r.Intn(12))
		for i := range l {
			l[i] = ins(r.Intn(30)-2, r.Intn(1000)-500, int(r.Uint64()), int64(r.Uint64()), strings.Repeat("n", r.Intn(3)))
			word := "?"
			if l[i].Op > 0 && l[i].Op < len(all) {
				word = all[l[i].Op]
			}
			want.WriteString(strings.TrimRight(fmt.Sprintf("%d %s %d %d %d %s", i, word, l[i].A, l[i].B, l[i].C, l[i].Name), " ") + "\n")
		}
		if got := code.Text(over(nil, l...)); got != want.String() {
			t.Fatalf("P20.2: %q, wanted %q", got, want.String())
		}
	}
}
