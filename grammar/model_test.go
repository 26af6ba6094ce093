package grammar_test

import (
	"slices"
	"strconv"
	"strings"

	"jobmux/api"
	"jobmux/lexer"
)

// model is P6.2 as an automaton: it goes from token to token, and knows what may come next. The name of each place says what the token there is.
type model struct {
	jobs  []api.Job
	seen  []string // the words of the items of the last job
	item  string   // the last one of these words
	place string
	next  []string // the places behind this one
}

// forms are the places of the items behind their words.
var forms = map[string][]string{
	"run":     {"run", "item"},
	"env":     {"variable", "=", "value", "item"},
	"needs":   {"need", "more"},
	"ready":   {"ready", "item"},
	"restart": {"restart", "item"},
	"backoff": {"base", "cap", "stable", "item"},
	"burst":   {"burst", "window", "item"},
	"stop":    {"signal", "wait", "more"},
}

// kinds are the kinds of the tokens at places.
var kinds = map[string]int{
	"job": api.TokWord, "name": api.TokWord, "{": api.TokSign, "run": api.TokString, "variable": api.TokWord, "=": api.TokSign, "value": api.TokString,
	"need": api.TokWord, "ready": api.TokPattern, "restart": api.TokWord, "base": api.TokNumber, "cap": api.TokNumber, "stable": api.TokNumber,
	"burst": api.TokNumber, "window": api.TokNumber, "signal": api.TokWord, "wait": api.TokNumber,
}

// exact are the tokens that have one text alone at a place.
var exact = []string{"job", "{", "="}

// limits are the greatest numbers of bytes at places.
var limits = map[string]int{"name": api.MaxName, "variable": api.MaxName, "need": api.MaxName, "run": api.MaxString, "value": api.MaxString, "ready": api.MaxPattern}

// policies are the words of restart.
var policies = []string{"", "never", "on-failure", "always"}

// signals are the signals of ladders.
var signals = map[string]int{"HUP": 1, "INT": 2, "QUIT": 3, "USR1": 10, "USR2": 12, "TERM": 15}

// job returns the last job.
func (m *model) job() *api.Job { return &m.jobs[len(m.jobs)-1] }

// fits reports whether a token can stand at the place.
func (m *model) fits(t api.Token) bool {
	word, sign := t.Kind == api.TokWord, t.Kind == api.TokSign
	switch m.place {
	case "job":
		return t.Kind == api.TokEnd || word && t.Text == "job"
	case "item", "more":
		return word && forms[t.Text] != nil || sign && t.Text == "}" || sign && t.Text == "," && m.place == "more"
	case "restart":
		return word && slices.Index(policies, t.Text) > 0
	}
	return t.Kind == kinds[m.place] && (!slices.Contains(exact, m.place) || t.Text == m.place)
}

// full reports whether there are as many things as there may be of what is at the place.
func (m *model) full() bool {
	switch m.place {
	case "name":
		return len(m.jobs) == api.MaxJobs
	case "variable":
		return len(m.job().Env) == api.MaxEnv
	case "need":
		return len(m.job().Needs) == api.MaxNeeds
	case "signal":
		return len(m.job().Ladder) == api.MaxRungs
	}
	return false
}

// twice reports whether a text was at the place before.
func (m *model) twice(text string) bool {
	switch m.place {
	case "item", "more":
		return slices.Contains(m.seen, text) && text != "env"
	case "need":
		return slices.Contains(m.job().Needs, text)
	case "variable":
		return slices.ContainsFunc(m.job().Env, func(v api.Var) bool { return v.Name == text })
	}
	return false
}

// fault returns the first fault of a token, in the order of P6.2.
func (m *model) fault(t api.Token) api.Fault {
	f := api.Fault{Line: t.Line, Column: t.Column}
	limit, limited := limits[m.place]
	n, _ := strconv.Atoi(t.Text)
	switch {
	case !m.fits(t):
		f.Code = api.ErrToken
	case limited && len(t.Text) > limit || m.full():
		f.Code = api.ErrLimit
	case m.twice(t.Text):
		f.Code = api.ErrTwice
	case m.place == "signal" && signals[t.Text] == 0:
		f.Code = api.ErrUnknown
	case m.place == "burst" && (n < 1 || n > api.MaxBurst):
		f.Code = api.ErrRange
	case (m.place == "item" || m.place == "more") && t.Text == "}" && !slices.Contains(m.seen, "run"):
		f = api.Fault{Code: api.ErrMissing, Line: m.job().Line, Column: m.job().Column}
	default:
		return api.Fault{}
	}
	return f
}

// add puts a token without a fault into the jobs.
func (m *model) add(t api.Token) {
	if m.place == "name" {
		m.jobs = append(m.jobs, api.Job{
			Name: t.Text, Restart: 2, Base: 100, Cap: 10000, Stable: 10000, Burst: 5, Window: 60000,
			Ladder: []api.Rung{{Signal: 15, Wait: 5000}}, Line: t.Line, Column: t.Column,
		})
		m.seen = nil
		return
	}
	if len(m.jobs) == 0 {
		return
	}
	j := m.job()
	n, _ := strconv.ParseUint(t.Text, 10, 64)
	switch m.place {
	case "run":
		j.Run = t.Text
	case "variable":
		j.Env = append(j.Env, api.Var{Name: t.Text})
	case "value":
		j.Env[len(j.Env)-1].Value = t.Text
	case "need":
		j.Needs = append(j.Needs, t.Text)
	case "ready":
		j.HasReady, j.Ready = true, t.Text
	case "restart":
		j.Restart = slices.Index(policies, t.Text)
	case "base":
		j.Base = n
	case "cap":
		j.Cap = n
	case "stable":
		j.Stable = n
	case "burst":
		j.Burst = int(n)
	case "window":
		j.Window = n
	case "signal":
		j.Ladder = append(j.Ladder, api.Rung{Signal: signals[t.Text]})
	case "wait":
		j.Ladder[len(j.Ladder)-1].Wait = n
	}
}

// step reads a token without a fault.
func (m *model) step(t api.Token) {
	m.add(t)
	switch {
	case m.place == "job":
		m.next = []string{"name", "{", "item"}
	case m.place != "item" && m.place != "more":
	case t.Text == "}":
		m.next = []string{"job"}
	case t.Text == ",":
		m.next = forms[m.item]
	default:
		m.item, m.next = t.Text, forms[t.Text]
		m.seen = append(m.seen, t.Text)
		if t.Text == "stop" {
			m.job().Ladder = nil
		}
	}
	m.place, m.next = m.next[0], m.next[1:]
}

// parse is P6.2.
func parse(s string) ([]api.Job, api.Fault) {
	tokens, fault := lexer.All(s)
	m := model{place: "job"}
	for _, t := range tokens {
		if fault = m.fault(t); fault != (api.Fault{}) {
			break
		}
		m.step(t)
	}
	if fault != (api.Fault{}) {
		return nil, fault
	}
	return m.jobs, fault
}

// write writes a token.
func write(t api.Token) string {
	switch t.Kind {
	case api.TokString:
		return lexer.Quote(t.Text)
	case api.TokPattern:
		return "/" + strings.ReplaceAll(t.Text, "/", `\/`) + "/"
	}
	return t.Text
}

// words returns the tokens of a text as texts, without the end.
func words(s string) []string {
	tokens, _ := lexer.All(s)
	var l []string
	for _, t := range tokens {
		if t.Kind != api.TokEnd {
			l = append(l, write(t))
		}
	}
	return l
}
