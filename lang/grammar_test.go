package lang_test

import (
	"math/rand/v2"
	"regexp"
	"slices"
	"strings"
	"testing"

	"helm/api"
	"helm/lang"
)

// The document's grammar, rule for rule, for a second reader that has nothing
// in common with the first one. OR stands for the sign ||.
const grammar = `
Program := Statements
Statements := | Statements Statement
Statement := var NAME = Expr ; | NAME = Expr ; | REGISTER = Expr ; | push ( Expr , Expr ) ; | return ;
Statement := if Expr Block | if Expr Block else Block | each NAME in Set Block
Block := { Statements }
Set := ROADS | FRESH | AGAIN | Set . filter ( NAME : Expr )
Expr := And | Expr OR And
And := Equal | And && Equal
Equal := Order == Order | Order != Order | Order
Order := Sum < Sum | Sum <= Sum | Sum > Sum | Sum >= Sum | Sum
Sum := Product | Sum + Product | Sum - Product
Product := Minus | Product * Minus | Product / Minus | Product % Minus
Minus := - Minus | ! Minus | Behind
Behind := Basic | Behind . NAME | Behind . on ( Expr )
Basic := NUMBER | true | false | REGISTER | NAME | ( Expr ) | isnone ( Expr )
Basic := Set . count | Set . first | Set . min ( NAME : Expr ) | Set . max ( NAME : Expr ) | Set . sum ( NAME : Expr ) | Set . any ( NAME : Expr )
`

var (
	tokenForm = longest(`^(?:[a-z][a-z0-9]*|[0-9]+|R[0-7]|ROADS|FRESH|AGAIN|<=|>=|==|!=|&&|\|\||[(){},;:.+*/%<>=!-])`)
	noNames   = strings.Fields("if else each in push var return true false isnone")
)

func longest(form string) *regexp.Regexp {
	r := regexp.MustCompile(form)
	r.Longest()
	return r
}

type rule struct {
	head string
	body []string
}

// A reader goes through a text by Earley's way.
type reader struct {
	rules []rule
	of    map[string][]int // the rules of a head
}

// An item is a rule that is being read: how much of it was, and since when.
type item struct {
	rule, read, since int
}

func newReader() *reader {
	r := &reader{of: map[string][]int{}}
	for line := range strings.Lines(strings.TrimSpace(grammar)) {
		head, bodies, _ := strings.Cut(strings.TrimSpace(line), " :=")
		for text := range strings.SplitSeq(bodies, " |") {
			body := strings.Fields(text)
			if i := slices.Index(body, "OR"); i >= 0 {
				body[i] = "||"
			}
			r.of[head] = append(r.of[head], len(r.rules))
			r.rules = append(r.rules, rule{head: head, body: body})
		}
	}
	return r
}

// next is the symbol that an item waits for; "" behind the last one.
func (r *reader) next(i item) string {
	body := r.rules[i.rule].body
	if i.read == len(body) {
		return ""
	}
	return body[i.read]
}

// fill adds to the newest list all that follows from what is in it.
func (r *reader) fill(lists [][]item) {
	now := len(lists) - 1
	seen := map[item]bool{}
	for _, i := range lists[now] {
		seen[i] = true
	}
	add := func(i item) {
		if !seen[i] {
			seen[i] = true
			lists[now] = append(lists[now], i)
		}
	}
	for k := 0; k < len(lists[now]); k++ {
		i := lists[now][k]
		symbol := r.next(i)
		if symbol == "" {
			for _, waiting := range lists[i.since] {
				if r.next(waiting) == r.rules[i.rule].head {
					waiting.read++
					add(waiting)
				}
			}
			continue
		}
		for _, rule := range r.of[symbol] {
			add(item{rule: rule, since: now})
		}
		if symbol == "Statements" { // the only one that may be empty
			i.read++
			add(i)
		}
	}
}

// fits tells whether a token is one that a symbol of the grammar means.
func fits(symbol, token string) bool {
	switch symbol {
	case "NAME":
		return token[0] >= 'a' && token[0] <= 'z' && !slices.Contains(noNames, token)
	case "NUMBER":
		return token[0] >= '0' && token[0] <= '9'
	case "REGISTER":
		return token[0] == 'R' && len(token) == 2
	}
	return symbol == token
}

func (r *reader) shift(list []item, token string) []item {
	var next []item
	for _, i := range list {
		if fits(r.next(i), token) {
			i.read++
			next = append(next, i)
		}
	}
	return next
}

func tokenAt(text string) string {
	token := tokenForm.FindString(text)
	if token == "" || token[0] >= 'a' && token[0] <= 'z' && len(token) > 12 || token[0] >= '0' && token[0] <= '9' && len(token) > 18 {
		return ""
	}
	return token
}

// read tells where a text ceases to be a program; -1, if it is one.
func (r *reader) read(src string) int {
	if len(src) > 4000 {
		return 0
	}
	lists := [][]item{{{}}} // the first rule is the program's
	depth := 0
	for at := 0; ; {
		r.fill(lists)
		list := lists[len(lists)-1]
		for at < len(src) && (src[at] == ' ' || src[at] == '\n') {
			at++
		}
		if at == len(src) {
			if slices.Contains(list, item{read: 1}) {
				return -1
			}
			return at
		}
		token := tokenAt(src[at:])
		if token == "" {
			return at
		}
		switch token {
		case "(", "{":
			depth++
		case ")", "}":
			depth--
		}
		list = r.shift(list, token)
		if len(list) == 0 || depth > 20 {
			return at
		}
		lists = append(lists, list)
		at += len(token)
	}
}

// hold holds Check to what the reader says of a text.
func (r *reader) hold(t *testing.T, src string) {
	t.Helper()
	place := r.read(src)
	if place >= 0 {
		wantFault(t, src, api.ErrText, place)
		return
	}
	if _, errno, at := lang.Check(src); errno == api.ErrText {
		t.Errorf("Check(%.200q) tells ErrText, %d: it is a program", src, at)
	}
}

const sampler = `var x = -R3 * 7; x = x % 2 - 1; each p in FRESH.filter(q: q.on(ROADS.first)) { push(ROADS.min(r: r.rtt), p); }
if !isnone(AGAIN.max(p: p.size)) && (x <= 3) == true || 1 < R0 { return; } else { R0 = AGAIN.sum(p: 1).seq; }
if ROADS.filter(r: r.lossy).filter(r: r.id != 3).count >= 2 { }`

func sampleTokens() []string {
	var tokens []string
	for text := sampler; ; {
		text = strings.TrimLeft(text, " \n")
		if text == "" {
			return tokens
		}
		token := tokenAt(text)
		tokens = append(tokens, token)
		text = text[len(token):]
	}
}

const everyToken = `x if else each in push var return true false isnone filter count first min max sum any on 12 R7 ROADS FRESH AGAIN
( ) { } , ; : . + - * / % < <= > >= == != = ! && || & R8 abcdefghijklm 1234567890123456789`

// Behind each beginning of a program: each token there is, and one more.
func TestEachTokenBehindEachBeginning(t *testing.T) {
	t.Parallel()
	r := newReader()
	tokens := sampleTokens()
	random := rand.New(rand.NewPCG(1, 2))
	all := strings.Fields(everyToken)
	for n := range len(tokens) + 1 {
		ahead := strings.Join(tokens[:n], " ") + " "
		r.hold(t, ahead)
		for _, token := range all {
			r.hold(t, ahead+token)
			r.hold(t, ahead+token+" "+all[random.IntN(len(all))])
		}
	}
}

// Programs in which a few tokens or bytes are left out, added, or others.
func TestSpoiltPrograms(t *testing.T) {
	t.Parallel()
	r := newReader()
	random := rand.New(rand.NewPCG(3, 4))
	all := strings.Fields(everyToken)
	for n := range 2000 {
		w := writer{random: random}
		src := w.program()
		for range random.IntN(3) {
			at := random.IntN(len(src) + 1)
			end := min(at+random.IntN(4), len(src))
			switch random.IntN(4) {
			case 0:
				src = src[:at] + src[end:]
			case 1:
				src = src[:at] + " " + all[random.IntN(len(all))] + " " + src[at:]
			case 2:
				src = src[:at] + string([]byte{byte(random.IntN(256))}) + src[end:]
			case 3:
				src = src[:at]
			}
		}
		if n%10 == 0 {
			src = strings.Join(shuffled(random, strings.Fields(src)), " ")
		}
		r.hold(t, src)
	}
}

func shuffled(random *rand.Rand, list []string) []string {
	random.Shuffle(len(list), func(i, k int) { list[i], list[k] = list[k], list[i] })
	return list
}
