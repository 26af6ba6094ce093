package grammar_test

import (
	"math/rand/v2"
	"reflect"
	"slices"
	"strconv"
	"strings"
	"testing"

	"jobmux/api"
	"jobmux/grammar"
	"jobmux/lexer"
)

// plain returns the job that has a name and the item run "x" alone.
func plain(name string, line, column int) api.Job {
	return api.Job{
		Name: name, Run: "x", Restart: api.RestartFailure, Base: 100, Cap: 10000, Stable: 10000, Burst: 5, Window: 60000,
		Ladder: []api.Rung{{Signal: api.SigTerm, Wait: 5000}}, Line: line, Column: column,
	}
}

// sameJob reports whether two jobs are equal.
func sameJob(a, b api.Job) bool {
	lists := slices.Equal(a.Env, b.Env) && slices.Equal(a.Needs, b.Needs) && slices.Equal(a.Ladder, b.Ladder)
	a.Env, a.Needs, a.Ladder = nil, nil, nil
	b.Env, b.Needs, b.Ladder = nil, nil, nil
	return lists && reflect.DeepEqual(a, b)
}

// jobs reports an error if Parse does not return the given fault and jobs.
func jobs(t *testing.T, s string, fault api.Fault, want ...api.Job) {
	t.Helper()
	if got, f := grammar.Parse(s); !slices.EqualFunc(got, want, sameJob) || f != fault {
		t.Errorf("Parse(%.500q)\n got %+v %v\nwant %+v %v", s, got, f, want, fault)
	}
}

// faulty reports an error if Parse does not return the given fault and nothing else.
func faulty(t *testing.T, s string, code api.Errno, line, column int) {
	t.Helper()
	jobs(t, s, api.Fault{Code: code, Line: line, Column: column})
}

// item reports an error if an item does not change the usual job as a function does.
func item(t *testing.T, s string, change func(*api.Job)) {
	t.Helper()
	want := plain("a", 1, 5)
	change(&want)
	jobs(t, `job a { run "x" `+s+` }`, api.Fault{}, want)
	jobs(t, `job a { `+s+` run "x" }`, api.Fault{}, want)
	jobs(t, `job a{`+s+` run"x"}job b{run"x"}`, api.Fault{}, want, plain("b", 1, len(s)+19))
}

// bad reports an error if the text of an item, up to the mark @, is not where a fault is seen.
func bad(t *testing.T, s string, code api.Errno) {
	t.Helper()
	before, after, _ := strings.Cut(s, "@")
	for _, start := range []string{"job a { ", "job a {\n\n", `job b { run "" stop INT 1 needs c } job a {` + "\n"} {
		text := start + before
		line, column := 1+strings.Count(text, "\n"), len(text)-strings.LastIndex(text, "\n")
		faulty(t, text+after, code, line, column)
		faulty(t, text+after+" } x", code, line, column)
	}
}

// sameAsModel ends the test if Parse and the model differ. It returns the fault.
func sameAsModel(t *testing.T, s string) api.Fault {
	t.Helper()
	got, f := grammar.Parse(s)
	want, fault := parse(s)
	if !slices.EqualFunc(got, want, sameJob) || f != fault {
		t.Fatalf("Parse(%q)\n got %+v %v\nwant %+v %v", s, got, f, want, fault)
	}
	return f
}

// repeat returns a text for each of the first numbers, joined.
func repeat(n int, text func(i string) string) string {
	var s strings.Builder
	for i := range n {
		s.WriteString(text(strconv.Itoa(i)))
	}
	return s.String()
}

// P6.1: Signal.
func TestSignal(t *testing.T) {
	for name, want := range map[string]int{"HUP": api.SigHup, "INT": api.SigInt, "QUIT": api.SigQuit, "USR1": api.SigUsr1, "USR2": api.SigUsr2, "TERM": api.SigTerm} {
		if got := grammar.Signal(name); got != want {
			t.Errorf("Signal(%q) = %d, want %d", name, got, want)
		}
		for _, other := range []string{strings.ToLower(name), "SIG" + name, name[1:], name[:len(name)-1], name + " ", " " + name, name + "1", name + "\x00", name + name} {
			if got := grammar.Signal(other); got != 0 {
				t.Errorf("Signal(%q) = %d, want 0", other, got)
			}
		}
	}
	for _, name := range []string{"", "KILL", "STOP", "CONT", "ABRT", "USR", "USR0", "USR3", "9", "15", "?", "\xff", strings.Repeat("TERM", 1<<20)} {
		if got := grammar.Signal(name); got != 0 {
			t.Errorf("Signal(%.20q) = %d, want 0", name, got)
		}
	}
}

// P6.2: the jobs in order, with their places and what they are without items.
func TestJobs(t *testing.T) {
	jobs(t, "", api.Fault{})
	jobs(t, " \n# job a { }\n", api.Fault{})
	jobs(t, `job a { run "x" }`, api.Fault{}, plain("a", 1, 5))
	jobs(t, `job b{run"x"}job a{run"x"}job b{run"x"}`, api.Fault{}, plain("b", 1, 5), plain("a", 1, 18), plain("b", 1, 31))
	jobs(t, "job # a\n b # c\n { # d\n run\n\"x\"} job a { run \"x\" }", api.Fault{}, plain("b", 2, 2), plain("a", 5, 10))
	jobs(t, "job\r\n\ta-1_B { run \"x\" }\n\n\njob _ { run \"x\" }#", api.Fault{}, plain("a-1_B", 2, 2), plain("_", 5, 5))
}

// P6.2: each item.
func TestItems(t *testing.T) {
	for s, want := range map[string]string{`""`: "", `"a b"`: "a b", `"\x00\n\"\xff"`: "\x00\n\"\xff", `"#{}"`: "#{}"} {
		job := plain("a", 1, 5)
		job.Run = want
		jobs(t, "job a { run "+s+" }", api.Fault{}, job)
	}
	item(t, `env A = "1"`, func(j *api.Job) { j.Env = []api.Var{{Name: "A", Value: "1"}} })
	item(t, `env b="" env a="\t" env a-="b" env B="="`, func(j *api.Job) {
		j.Env = []api.Var{{Name: "b"}, {Name: "a", Value: "\t"}, {Name: "a-", Value: "b"}, {Name: "B", Value: "="}}
	})
	item(t, `needs b`, func(j *api.Job) { j.Needs = []string{"b"} })
	item(t, `needs c, a ,b,A`, func(j *api.Job) { j.Needs = []string{"c", "a", "b", "A"} })
	item(t, `ready /a|b/`, func(j *api.Job) { j.HasReady, j.Ready = true, "a|b" })
	item(t, `ready /\/\d\\(/`, func(j *api.Job) { j.HasReady, j.Ready = true, `/\d\\(` })
	item(t, `ready //`, func(j *api.Job) { j.HasReady = true })
	item(t, `restart always`, func(j *api.Job) { j.Restart = api.RestartAlways })
	item(t, `restart on-failure`, func(j *api.Job) { j.Restart = api.RestartFailure })
	item(t, `restart never`, func(j *api.Job) { j.Restart = api.RestartNever })
	item(t, `backoff 1 2 3`, func(j *api.Job) { j.Base, j.Cap, j.Stable = 1, 2, 3 })
	item(t, `backoff 0 0 0`, func(j *api.Job) { j.Base, j.Cap, j.Stable = 0, 0, 0 })
	item(t, `backoff 999999999999999999 0 123456789012345678`, func(j *api.Job) { j.Base, j.Cap, j.Stable = 999999999999999999, 0, 123456789012345678 })
	item(t, `burst 1 0`, func(j *api.Job) { j.Burst, j.Window = 1, 0 })
	item(t, `burst 16 999999999999999999`, func(j *api.Job) { j.Burst, j.Window = api.MaxBurst, 999999999999999999 })
	item(t, `stop TERM 5000`, func(*api.Job) {})
	item(t, `stop HUP 0`, func(j *api.Job) { j.Ladder = []api.Rung{{Signal: api.SigHup}} })
	item(t, `stop INT 1, QUIT 2 ,USR1 3,USR2 999999999999999999, INT 1`, func(j *api.Job) {
		j.Ladder = []api.Rung{{Signal: api.SigInt, Wait: 1}, {Signal: api.SigQuit, Wait: 2}, {Signal: api.SigUsr1, Wait: 3}, {Signal: api.SigUsr2, Wait: 999999999999999999}, {Signal: api.SigInt, Wait: 1}}
	})
	item(t, `env A="1" stop HUP 1 burst 2 3 env B="" restart never backoff 4 5 6 needs b ready /r/ env C="2"`, func(j *api.Job) {
		j.Env = []api.Var{{Name: "A", Value: "1"}, {Name: "B"}, {Name: "C", Value: "2"}}
		j.Needs, j.HasReady, j.Ready, j.Restart = []string{"b"}, true, "r", api.RestartNever
		j.Burst, j.Window, j.Base, j.Cap, j.Stable = 2, 3, 4, 5, 6
		j.Ladder = []api.Rung{{Signal: api.SigHup, Wait: 1}}
	})
}

// Definitions: there are no reserved words.
func TestWords(t *testing.T) {
	for _, w := range []string{"job", "run", "env", "needs", "ready", "restart", "backoff", "burst", "stop", "always", "on-failure", "never", "TERM", "KILL"} {
		want := plain(w, 1, 5)
		want.Env, want.Needs = []api.Var{{Name: w, Value: w}}, []string{"b", w}
		jobs(t, "job "+w+" { env "+w+" = \""+w+"\" needs b, "+w+" run \"x\" }", api.Fault{}, want)
		want.Needs = []string{w}
		jobs(t, "job "+w+" { needs "+w+" run \"x\" env "+w+" = \""+w+"\" }", api.Fault{}, want)
	}
}

// P6.2: a fault of lexer.All is the first of all.
func TestTokenFaults(t *testing.T) {
	faulty(t, ".", api.ErrChar, 1, 1)
	faulty(t, "job a {\n.", api.ErrChar, 2, 1)
	faulty(t, "x y } .", api.ErrChar, 1, 7)
	faulty(t, `job a { } job "`, api.ErrString, 1, 15)
	faulty(t, "job a { run 1 } \n /", api.ErrPattern, 2, 2)
	faulty(t, "job a { burst 0 01 }", api.ErrNumber, 1, 17)
	faulty(t, "job a { burst 1000000000000000000 1 }", api.ErrNumber, 1, 15)
	jobs(t, strings.Repeat(" ", api.MaxText+1), api.Fault{Code: api.ErrLimit})
	jobs(t, "x"+strings.Repeat(" ", api.MaxText), api.Fault{Code: api.ErrLimit})
	faulty(t, strings.Repeat("} ", api.MaxTokens)+"\n=", api.ErrLimit, 2, 1)
	faulty(t, strings.Repeat("} ", api.MaxTokens), api.ErrToken, 1, 1)
}

// P6.2: ErrToken.
func TestErrToken(t *testing.T) {
	for _, s := range []string{"@x", "@jobs", "@Job", "@{", "@}", "@,", "@=", "@1", `@"job"`, "@/job/", "job@", "job @1", `job @"a"`, "job @{", "job a@", "job a @b", "job a @}", "job a @=", "job a {@", "job a { @{", "job a { @1 }", "job a { @x }", "job a { @,", "job a { @=", `job a { @"run"`, "job a { @job b"} {
		before, after, _ := strings.Cut(s, "@")
		faulty(t, before+after, api.ErrToken, 1, len(before)+1)
		faulty(t, `job a { run "" } `+before+after, api.ErrToken, 1, len(before)+18)
	}
	for _, s := range []string{
		"run @}", "run @x", "run @1", "run @/x/", "run @run", "@Run", "env @}", `env @"A"`, "env @1", "env @=", `env A @"x"`, "env A @x", "env A @{", "env A @,", "env A = @x", "env A = @}", "env A = @1", "env A = @/x/",
		"needs @}", "needs @,", "needs @1", `needs @"b"`, "needs @= b", "needs b @= c", "needs b, @}", "needs b, @, c", "needs b @c", "needs b @1", "needs b @{", "needs b, c, @/d/", "ready @}", `ready @"x"`, "ready @x", "ready @1",
		"restart @}", "restart @sometimes", `restart @"always"`, "restart @Always", "restart @on", "restart @onfailure", "restart @1", "restart @,",
		"backoff @}", "backoff 1 @}", "backoff 1 2 @}", "backoff @x 1 2", "backoff 1 @, 2 3", `backoff 1 2 @"3"`, "backoff 1 2 3 @4", "burst @}", "burst @x", "burst 1 @}", "burst 1 @, 2", "burst 1 2 @3",
		"stop @}", "stop @5", "stop @, TERM 5", `stop @"TERM" 5`, "stop TERM @}", "stop TERM @, INT 5", "stop TERM @INT", "stop TERM 5 @INT 5", "stop TERM 5, @}", "stop TERM 5 @6", "stop TERM 5,@, INT 6", "stop TERM 5, @=",
	} {
		bad(t, s, api.ErrToken)
	}
	for _, s := range []string{"run", "env", "env A", "env A =", "needs", "needs b", "needs b,", "ready", "restart", "backoff", "backoff 1", "backoff 1 2", "burst", "burst 1", "stop", "stop TERM", "stop TERM 1", "stop TERM 1,", `run ""`} {
		faulty(t, "job a {\n"+s, api.ErrToken, 2, len(s)+1)
		faulty(t, "job a {\n"+s+" # }\n ", api.ErrToken, 3, 2)
	}
}

// P6.2: ErrLimit, and what is not too much yet.
func TestErrLimit(t *testing.T) {
	name, text, pattern := strings.Repeat("n", api.MaxName), strings.Repeat("s", api.MaxString), strings.Repeat("p", api.MaxPattern)
	jobs(t, "job "+name+" { run \"x\" }", api.Fault{}, plain(name, 1, 5))
	faulty(t, "job "+name+"n { run \"x\" }", api.ErrLimit, 1, 5)
	faulty(t, "job "+name+"n x", api.ErrLimit, 1, 5)
	item(t, "env "+name+`="`+text+`"`, func(j *api.Job) { j.Env = []api.Var{{Name: name, Value: text}} })
	bad(t, "env @"+name+"n 5", api.ErrLimit)
	bad(t, `env A = @"`+text+`s" 5`, api.ErrLimit)
	item(t, "needs "+name+", n"+name[2:], func(j *api.Job) { j.Needs = []string{name, name[1:]} })
	bad(t, "needs @"+name+"n 5", api.ErrLimit)
	bad(t, "needs b, @"+name+"n }", api.ErrLimit)
	faulty(t, `job a { run "`+text+`s" }`, api.ErrLimit, 1, 13)
	item(t, "ready /"+pattern+"/", func(j *api.Job) { j.HasReady, j.Ready = true, pattern })
	bad(t, "ready @/"+pattern+"p/ 5", api.ErrLimit)
	// What counts is the text, not how it is written.
	job := plain("a", 1, 5)
	job.Run = strings.Repeat("\n", api.MaxString)
	jobs(t, "job a { run "+lexer.Quote(job.Run)+" }", api.Fault{}, job)
	faulty(t, "job a { run "+lexer.Quote(job.Run+"\n")+" }", api.ErrLimit, 1, 13)
	item(t, "ready /"+strings.Repeat(`\/`, api.MaxPattern)+"/", func(j *api.Job) { j.HasReady, j.Ready = true, strings.Repeat("/", api.MaxPattern) })
	bad(t, "ready @/"+strings.Repeat(`\\`, api.MaxPattern/2)+`\//`, api.ErrLimit)
}

// P6.2: ErrLimit of a list or of the jobs, at the first one too many.
func TestErrLimitLists(t *testing.T) {
	many := repeat(api.MaxJobs, func(i string) string { return "job a" + i + " { run \"\" }\n" })
	if l, f := grammar.Parse(many); len(l) != api.MaxJobs || f != (api.Fault{}) || l[api.MaxJobs-1].Name != "a"+strconv.Itoa(api.MaxJobs-1) {
		t.Errorf("%d jobs, %v", len(l), f)
	}
	faulty(t, many+"job a", api.ErrLimit, api.MaxJobs+1, 5)
	faulty(t, many+"job a0 1", api.ErrLimit, api.MaxJobs+1, 5)
	faulty(t, many+"job 1", api.ErrToken, api.MaxJobs+1, 5)
	faulty(t, many+"x", api.ErrToken, api.MaxJobs+1, 1)

	env := repeat(api.MaxEnv, func(i string) string { return "env A" + i + "=\"" + i + "\"\n" })
	item(t, strings.TrimSpace(strings.ReplaceAll(env, "\n", " ")), func(j *api.Job) {
		for i := range api.MaxEnv {
			j.Env = append(j.Env, api.Var{Name: "A" + strconv.Itoa(i), Value: strconv.Itoa(i)})
		}
	})
	bad(t, env+"env @A", api.ErrLimit)
	bad(t, env+"env @A0 = 1", api.ErrLimit) // before ErrTwice
	bad(t, env+"env @1", api.ErrToken)

	needs := "needs\n" + repeat(api.MaxNeeds-1, func(i string) string { return "b" + i + ", " })
	item(t, strings.ReplaceAll(needs, "\n", " ")+"c", func(j *api.Job) {
		for i := range api.MaxNeeds - 1 {
			j.Needs = append(j.Needs, "b"+strconv.Itoa(i))
		}
		j.Needs = append(j.Needs, "c")
	})
	bad(t, needs+"c, @d", api.ErrLimit)
	bad(t, needs+"c, @c", api.ErrLimit) // before ErrTwice
	bad(t, needs+"c, @=", api.ErrToken)
	bad(t, needs+"c @=", api.ErrToken)

	stop := "stop INT 1, INT 2, INT 3, INT 4, INT 5"
	item(t, stop, func(j *api.Job) {
		j.Ladder = nil
		for i := range api.MaxRungs {
			j.Ladder = append(j.Ladder, api.Rung{Signal: api.SigInt, Wait: uint64(i + 1)})
		}
	})
	bad(t, stop+", @INT 6", api.ErrLimit)
	bad(t, stop+", @KILL 6", api.ErrLimit) // before ErrUnknown
	bad(t, stop+", @"+strings.Repeat("n", api.MaxName+1), api.ErrLimit)
	bad(t, stop+", @6", api.ErrToken)
}

// P6.2: the limits of a list are those of one job.
func TestErrLimitAnew(t *testing.T) {
	env := repeat(api.MaxEnv, func(i string) string { return "env A" + i + "=\"\" " })
	needs := "needs " + repeat(api.MaxNeeds-1, func(i string) string { return "b" + i + ", " }) + "c"
	body := "{ run \"\" " + env + needs + " stop INT 1, INT 2, INT 3, INT 4, INT 5 }\n"
	s := "job a " + body + "job b " + body
	l, f := grammar.Parse(s)
	if f != (api.Fault{}) || len(l) != 2 || len(l[1].Env) != api.MaxEnv || len(l[1].Needs) != api.MaxNeeds || len(l[1].Ladder) != api.MaxRungs {
		t.Errorf("%v %v", l, f)
	}
}

// P6.2: ErrTwice.
func TestErrTwice(t *testing.T) {
	for _, s := range []string{`run "x"`, "needs b", "ready /x/", "restart never", "backoff 1 2 3", "burst 1 2", "stop INT 1"} {
		word, _, _ := strings.Cut(s, " ")
		faulty(t, "job a {\n"+s+" "+s, api.ErrTwice, 2, len(s)+2)
		faulty(t, "job a {\n"+s+" "+word, api.ErrTwice, 2, len(s)+2)
		faulty(t, "job a {\n"+s+" "+word+" =", api.ErrTwice, 2, len(s)+2)
		faulty(t, "job a {\n"+s+` env A="" env B="" `+word+" }", api.ErrTwice, 2, len(s)+20)
	}
	bad(t, `env A="" env @A="x"`, api.ErrTwice)
	bad(t, `env A="" env B="" env @A 5`, api.ErrTwice)
	bad(t, `env A="x" needs b env @A="x"`, api.ErrTwice)
	bad(t, `env A="" env a="" env @A`, api.ErrTwice)
	bad(t, "needs b, @b", api.ErrTwice)
	bad(t, "needs b, c, d, @c 5", api.ErrTwice)
	// Another job may have the same again.
	body := `{ run "x" env A="" needs b ready /x/ restart never backoff 1 2 3 burst 1 2 stop INT 1 }`
	if l, f := grammar.Parse("job a " + body + "job a " + body); len(l) != 2 || f != (api.Fault{}) {
		t.Errorf("%v %v", l, f)
	}
	// A job may need itself, a need may have the name of a variable, and a rung may occur again.
	item(t, `env b="" needs a, b stop INT 1, INT 1`, func(j *api.Job) {
		j.Env, j.Needs, j.Ladder = []api.Var{{Name: "b"}}, []string{"a", "b"}, []api.Rung{{Signal: api.SigInt, Wait: 1}, {Signal: api.SigInt, Wait: 1}}
	})
}

// P6.2: ErrUnknown.
func TestErrUnknown(t *testing.T) {
	for _, s := range []string{"KILL", "term", "SIGTERM", "TERM1", "_", "stop", strings.Repeat("n", api.MaxName+1)} {
		bad(t, "stop @"+s+" 5", api.ErrUnknown)
		bad(t, "stop @"+s, api.ErrUnknown)
		bad(t, "stop INT 1, USR1 2, @"+s+" =", api.ErrUnknown)
	}
}

// P6.2: ErrRange.
func TestErrRange(t *testing.T) {
	for n := range 300 {
		s := "burst @" + strconv.Itoa(n) + " 7"
		if n >= 1 && n <= api.MaxBurst {
			item(t, strings.Replace(s, "@", "", 1), func(j *api.Job) { j.Burst, j.Window = n, 7 })
		} else {
			bad(t, s, api.ErrRange)
		}
	}
	for _, n := range []string{"4294967296", "4294967297", "4294967301", "100000000000000000", "999999999999999999"} {
		bad(t, "burst @"+n+" 1", api.ErrRange)
		bad(t, "burst @"+n+" x", api.ErrRange)
	}
}

// P6.2: ErrMissing has the place of the job's name, but is found at the end of the job.
func TestErrMissing(t *testing.T) {
	faulty(t, "job a { }", api.ErrMissing, 1, 5)
	faulty(t, "job\n\n run {}", api.ErrMissing, 3, 2)
	faulty(t, `job a { env run="run" needs run ready /run/ restart never backoff 1 2 3 burst 1 2 stop INT 1 } x`, api.ErrMissing, 1, 5)
	faulty(t, "job a { run \"\" } job b { needs a } job c {", api.ErrMissing, 1, 22)
	faulty(t, "job a { needs b,b }", api.ErrTwice, 1, 17)
	faulty(t, "job a {", api.ErrToken, 1, 8)
	faulty(t, "job a { burst 0 } }", api.ErrRange, 1, 15)
}

// P6.2: the first fault, token by token.
func TestFirstFault(t *testing.T) {
	faulty(t, `job a { burst 0 1 stop KILL 1 } x`, api.ErrRange, 1, 15)
	faulty(t, `job a { stop KILL 1 burst 0 1 } x`, api.ErrUnknown, 1, 14)
	faulty(t, `job a { needs b,b stop KILL 1 }`, api.ErrTwice, 1, 17)
	faulty(t, `job a { } job b { run }`, api.ErrMissing, 1, 5)
	faulty(t, `job a { run } job b { }`, api.ErrToken, 1, 13)
	faulty(t, "job a { run \"\" }\njob b { burst 17 1 }", api.ErrRange, 2, 15)
}

// pool are tokens that take the place of others.
var pool = []string{
	"job", "run", "env", "needs", "ready", "restart", "backoff", "burst", "stop", "always", "on-failure", "never", "HUP", "TERM", "KILL", "a", "b", "A", "_", "{", "}", ",", "=",
	"0", "1", "5", "16", "17", "999999999999999999", `""`, `"x\n"`, "//", `/a\/b/`,
	strings.Repeat("n", api.MaxName), strings.Repeat("n", api.MaxName+1), `"` + strings.Repeat("s", api.MaxString) + `"`, `"` + strings.Repeat("s", api.MaxString+1) + `"`,
	"/" + strings.Repeat("p", api.MaxPattern) + "/", "/" + strings.Repeat("p", api.MaxPattern+1) + "/",
}

// full has every item, and all that can follow any token.
const full = `
job a { run "x" env A = "1" env b = "" needs b, c, job ready /x/ restart always backoff 1 2 3 burst 4 5 stop INT 1, KILL_ 2 }
job b { stop HUP 0, TERM 7, USR1 9 burst 1 1 backoff 0 0 0 restart never ready // needs a env A = "y" run "" env B = "z" }
job c { run "" }`

// P6.2: every token can be followed by any other one, or by none; and any one may be left out.
func TestEveryToken(t *testing.T) {
	l := words(strings.Replace(full, "KILL_", "QUIT", 1))
	if f := sameAsModel(t, strings.Join(l, "\n")); f != (api.Fault{}) {
		t.Fatal(f)
	}
	for i := range l {
		before, after := strings.Join(l[:i], "\n"), strings.Join(l[i+1:], "\n")
		sameAsModel(t, before)
		sameAsModel(t, before+"\n"+after)
		for _, w := range pool {
			sameAsModel(t, before+"\n"+w)
			sameAsModel(t, before+"\n"+w+"\n"+after)
			sameAsModel(t, before+"\n"+w+"\n"+l[i]+"\n"+after)
		}
	}
}

// randomItem makes an item.
func randomItem(r *rand.Rand, word string) string {
	name := func() string { return string('a'+rune(r.IntN(26))) + strconv.Itoa(r.IntN(50)) }
	number := func() string { return strconv.FormatUint(r.Uint64N(1000000000000000000)>>r.IntN(60), 10) }
	text := func() string { return lexer.Quote(strings.Repeat(string([]byte{byte(r.IntN(256))}), r.IntN(20))) }
	list := func(n int, element func() string) string {
		s := element()
		for range r.IntN(n) {
			s += " , " + element()
		}
		return s
	}
	switch word {
	case "run":
		return "run " + text()
	case "env":
		return "env " + name() + " = " + text()
	case "needs":
		return "needs " + list(api.MaxNeeds+2-r.IntN(16), name)
	case "ready":
		return "ready /" + strings.Repeat([]string{"a", `\/`, `\\`, "é"}[r.IntN(4)], r.IntN(10)) + "/"
	case "restart":
		return "restart " + policies[1+r.IntN(3)]
	case "backoff":
		return "backoff " + number() + " " + number() + " " + number()
	case "burst":
		return "burst " + strconv.Itoa(1+r.IntN(api.MaxBurst)) + " " + number()
	}
	return "stop " + list(api.MaxRungs+r.IntN(2), func() string {
		return []string{"HUP", "INT", "QUIT", "USR1", "USR2", "TERM"}[r.IntN(6)] + " " + number()
	})
}

// randomFile makes a Procfile, with its tokens between blanks. Most of them have no fault.
func randomFile(r *rand.Rand, n int) string {
	var s strings.Builder
	for i := range r.IntN(n + 1) {
		items := []string{"run"}
		for _, word := range []string{"needs", "ready", "restart", "backoff", "burst", "stop"} {
			if r.IntN(2) == 0 {
				items = append(items, word)
			}
		}
		for range r.IntN(4) {
			items = append(items, "env")
		}
		r.Shuffle(len(items), func(i, j int) { items[i], items[j] = items[j], items[i] })
		s.WriteString("job j" + strconv.Itoa(i) + " {")
		for _, word := range items {
			s.WriteString(" " + randomItem(r, word))
		}
		s.WriteString(" }\n")
	}
	return s.String()
}

// change makes a change to tokens at random.
func change(r *rand.Rand, l []string) []string {
	if len(l) == 0 {
		return []string{pool[r.IntN(len(pool))]}
	}
	i, j := r.IntN(len(l)), r.IntN(len(l))
	switch r.IntN(6) {
	case 0:
		return slices.Delete(l, i, i+1)
	case 1:
		return slices.Insert(l, i, pool[r.IntN(len(pool))])
	case 2:
		l[i] = pool[r.IntN(len(pool))]
	case 3:
		l[i] = l[j]
	case 4:
		l[i], l[j] = l[j], l[i]
	case 5:
		return l[:i]
	}
	return l
}

// P6.2: Procfiles at random, and with some of their tokens changed.
func TestModel(t *testing.T) {
	r := rand.New(rand.NewPCG(6, 1))
	faults := map[api.Errno]int{}
	for i := range 30000 {
		n := 4
		if i%100 == 0 {
			n = api.MaxJobs + 3
		}
		s := randomFile(r, n)
		faults[sameAsModel(t, s).Code]++
		l := words(s)
		for range 1 + r.IntN(3) {
			l = change(r, l)
		}
		faults[sameAsModel(t, strings.Join(l, " ")).Code]++
	}
	for _, code := range []api.Errno{api.OK, api.ErrToken, api.ErrLimit, api.ErrTwice, api.ErrUnknown, api.ErrRange, api.ErrMissing} {
		if faults[code] < 100 {
			t.Errorf("only %d Procfiles with the fault %d", faults[code], code)
		}
	}
}

// P6.2: tokens at random.
func TestTokens(t *testing.T) {
	r := rand.New(rand.NewPCG(6, 2))
	short := pool[:len(pool)-6]
	starts := []string{"", "job a {", "job a { run \"\"", "job a { needs", "job a { stop", "job a { env A ="}
	for range 60000 {
		l := []string{starts[r.IntN(len(starts))]}
		for range r.IntN(12) {
			l = append(l, short[r.IntN(len(short))])
		}
		sameAsModel(t, strings.Join(l, " "))
	}
}

// Consequence: parsing depends neither on comments nor on how many blanks there are, except for places.
func TestBlanks(t *testing.T) {
	r := rand.New(rand.NewPCG(6, 3))
	blanks := []string{" ", "\n", "\t", "\r", "  ", "#\n", "# job x { } \"\n", " # . /\r\n\n"}
	for range 5000 {
		l := words(randomFile(r, 3))
		for range r.IntN(2) {
			l = change(r, l)
		}
		one, f := grammar.Parse(strings.Join(l, " "))
		var s strings.Builder
		for _, w := range l {
			for range 1 + r.IntN(3) {
				s.WriteString(blanks[r.IntN(len(blanks))])
			}
			s.WriteString(w)
		}
		if s.Len() > api.MaxText {
			continue
		}
		other, g := grammar.Parse(s.String())
		for i := range other {
			other[i].Line, other[i].Column = one[i].Line, one[i].Column
		}
		if f.Code != g.Code || !slices.EqualFunc(one, other, sameJob) {
			t.Fatalf("Parse(%q)\n%+v %v\n%+v %v", s.String(), one, f, other, g)
		}
	}
}

// The chapter's examples, and the document's.
func TestExamples(t *testing.T) {
	jobs(t, `job a { run "x" }`, api.Fault{}, plain("a", 1, 5))
	faulty(t, "job a { }", api.ErrMissing, 1, 5)
	faulty(t, "job a { run }", api.ErrToken, 1, 13)
}

// P1: texts of any bytes and any length.
func TestAnyText(t *testing.T) {
	r := rand.New(rand.NewPCG(6, 4))
	for range 20000 {
		b := []byte(randomFile(r, 2))
		for range 1 + r.IntN(4) {
			if len(b) > 0 {
				b[r.IntN(len(b))] = byte(r.IntN(256))
			}
		}
		sameAsModel(t, string(b))
	}
	for _, s := range []string{"", "\x00", "job ", "job a {", "job a{run\"\"}", "{", "needs b,", "\"", "\xff", "a,", "env A="} {
		for _, start := range []string{"", "job a { ", "job a { needs ", "job a { stop INT 1, ", "job a { run \""} {
			long := start + strings.Repeat(s, 1<<22/max(1, len(s)))
			sameAsModel(t, long)
			sameAsModel(t, long[:min(len(long), api.MaxText)])
		}
	}
}

// Rules: nothing is kept between calls, and results are new memory.
func TestNoSharing(t *testing.T) {
	s := `job a { run "x" } job b { run "x" } job c { env A="" env B="" needs a, b, d stop INT 1, HUP 2 run "" }`
	l, _ := grammar.Parse(s)
	for i := range l {
		clear(l[i].Ladder[:cap(l[i].Ladder)])
		clear(l[i].Env[:cap(l[i].Env)])
		clear(l[i].Needs[:cap(l[i].Needs)])
		if i < 2 {
			if next := l[i+1].Ladder[0]; next.Signal == 0 {
				t.Errorf("job %d shares its ladder with the one before it", i+1)
			}
		}
	}
	clear(l)
	faulty(t, "job c { env A=\"\" env A", api.ErrTwice, 1, 22)
	if f := sameAsModel(t, s); f != (api.Fault{}) {
		t.Error(f)
	}
}
