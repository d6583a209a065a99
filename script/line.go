package script

import (
	"slices"
	"strconv"
	"strings"

	"deedhold/api"
	"deedhold/estate"
	"deedhold/folk"
	"deedhold/order"
)

// What a step may have at most.
const (
	mostData = 600
	mostKeep = 64
)

// The words that lines begin with.
const (
	loginWord  = "login"
	asWord     = "as"
	rawWord    = "raw"
	commitWord = "commit"
	abortWord  = "abort"
	bootWord   = "boot"
	armWord    = "arm"
	crashWord  = "crash"
)

// digits are those of a byte in a line.
const digits = "0123456789abcdef"

// words are those of the kinds of orders.
var words = [28]string{
	1: "enrol", 2: "mint", 3: "give", 4: "claim", 5: "demolish", 6: "transfer", 7: "list", 8: "make", 9: "destroy",
	10: "build", 11: "store", 12: "take", 13: "open", 14: "stock", 15: "unstock", 16: "buy", 17: "collect", 18: "pay",
	19: "auction", 20: "bid", 21: "look", 22: "near", 23: "ask", 24: "purse", 25: "tick", 26: "inside", 27: "bank",
}

// number is where an order has one of its numbers.
func number(o *estate.Order, field byte) *int {
	switch field {
	case 'A':
		return &o.A
	case 'B':
		return &o.B
	case 'C':
		return &o.C
	}
	return &o.D
}

// used is a step of the kind with what this uses, and nothing else.
func (s Step) used() Step {
	u := Step{Kind: s.Kind}
	switch s.Kind {
	case command:
		u.Command = s.Command
	case raw:
		u.Data = s.Data
	case arm:
		u.N = s.N
	case crash:
		u.Loss = s.Loss
	}
	return u
}

// Right: has it a line?
func (s Step) Right() bool {
	if s.Kind < command || s.Kind > crash || !s.Equal(s.used()) || len(s.Data) > mostData || len(s.Loss.Keep) > mostKeep {
		return false
	}
	if s.Kind != command {
		return true
	}
	named := !strings.Contains(order.Fields(s.Command.Order.Kind), "T") || folk.Name(s.Command.Order.Text)
	return s.Command.Right() && named
}

// Line: its line.
func (s Step) Line() (string, api.Errno) {
	if !s.Right() {
		return "", api.ErrForm
	}
	var l []string
	switch s.Kind {
	case command:
		l = commandWords(s.Command)
	case raw:
		l = []string{rawWord}
		if len(s.Data) > 0 {
			l = append(l, dataWord(s.Data))
		}
	case commit:
		l = []string{commitWord}
	case abort:
		l = []string{abortWord}
	case boot:
		l = []string{bootWord}
	case arm:
		l = []string{armWord, strconv.Itoa(s.N)}
	case crash:
		l = []string{crashWord, strconv.Itoa(s.Loss.Torn), strconv.Itoa(s.Loss.Cut)}
		for _, n := range s.Loss.Keep {
			l = append(l, strconv.Itoa(n))
		}
	}
	return strings.Join(l, " "), api.OK
}

// commandWords are those of a right command.
func commandWords(c order.Command) []string {
	if c.Login != "" {
		return []string{loginWord, strconv.Itoa(c.Session), c.Login}
	}
	l := []string{asWord, strconv.Itoa(c.Session), words[c.Order.Kind]}
	for _, f := range []byte(order.Fields(c.Order.Kind)) {
		if f == 'T' {
			l = append(l, c.Order.Text)
		} else {
			l = append(l, strconv.Itoa(*number(&c.Order, f)))
		}
	}
	return l
}

// dataWord has two digits for each byte.
func dataWord(data []byte) string {
	var b strings.Builder
	for _, c := range data {
		b.WriteByte(digits[c>>4])
		b.WriteByte(digits[c&15])
	}
	return b.String()
}

// Parse: the step of a line.
func Parse(line string) (Step, api.Errno) {
	s, ok := read(strings.Split(line, " "))
	if !ok {
		return Step{}, api.ErrLine
	}
	// Whatever else is asked of it, its own line tells.
	again, e := s.Line()
	if e != api.OK || again != line {
		return Step{}, api.ErrLine
	}
	return s, api.OK
}

// read makes a step of words, of which there is at least one.
func read(l []string) (Step, bool) {
	rest := l[1:]
	switch l[0] {
	case loginWord:
		return readLogin(rest)
	case asWord:
		return readOrder(rest)
	case rawWord:
		data, ok := readData(strings.Join(rest, " "))
		return Step{Kind: raw, Data: data}, ok
	case commitWord:
		return Step{Kind: commit}, true
	case abortWord:
		return Step{Kind: abort}, true
	case bootWord:
		return Step{Kind: boot}, true
	}
	n, ok := readNumbers(rest)
	switch {
	case ok && l[0] == armWord && len(n) == 1:
		return Step{Kind: arm, N: n[0]}, true
	case ok && l[0] == crashWord && len(n) >= 2:
		s := Step{Kind: crash}
		s.Loss.Torn, s.Loss.Cut, s.Loss.Keep = n[0], n[1], slices.Clone(n[2:])
		return s, true
	}
	return Step{}, false
}

// readNumbers makes numbers of words.
func readNumbers(l []string) ([]int, bool) {
	numbers := make([]int, len(l))
	for i, w := range l {
		n, err := strconv.Atoi(w)
		if err != nil {
			return nil, false
		}
		numbers[i] = n
	}
	return numbers, true
}

func readLogin(l []string) (Step, bool) {
	if len(l) != 2 {
		return Step{}, false
	}
	n, ok := readNumbers(l[:1])
	if !ok {
		return Step{}, false
	}
	return Step{Kind: command, Command: order.Command{Session: n[0], Login: l[1]}}, true
}

// kindOf is the kind of orders that a word names, or 0.
func kindOf(word string) int {
	for kind, w := range words {
		if w == word {
			return kind
		}
	}
	return 0
}

func readOrder(l []string) (Step, bool) {
	if len(l) < 2 {
		return Step{}, false
	}
	n, ok := readNumbers(l[:1])
	kind := kindOf(l[1])
	fields, l := order.Fields(kind), l[2:]
	if !ok || kind < 1 || len(l) != len(fields) {
		return Step{}, false
	}
	s := Step{Kind: command, Command: order.Command{Session: n[0]}}
	s.Command.Order.Kind = kind
	for i, f := range []byte(fields) {
		if f == 'T' {
			s.Command.Order.Text = l[i]
			continue
		}
		n, ok := readNumbers(l[i : i+1])
		if !ok {
			return Step{}, false
		}
		*number(&s.Command.Order, f) = n[0]
	}
	return s, true
}

// readData makes bytes of digits.
func readData(word string) ([]byte, bool) {
	if len(word)%2 != 0 {
		return nil, false
	}
	var data []byte
	for i := 0; i < len(word); i += 2 {
		high, low := strings.IndexByte(digits, word[i]), strings.IndexByte(digits, word[i+1])
		if high < 0 || low < 0 {
			return nil, false
		}
		data = append(data, byte(high<<4|low))
	}
	return data, true
}
