package anvil

import (
	"math/big"
	"math/rand"
	"strings"
	"testing"

	"anvil/api"
)

// model says what the document says, in another way: by great numbers, brought
// back to 64 bits, and by going to and fro in the tokens of a body.
type model struct {
	stack        []*big.Int
	cells        [api.Cells]*big.Int
	words        map[string]*modelWord
	out          string
	steps, depth int
	modelHeat
}

// modelWord is a body, up to its semicolon; partner tells of the token at a
// place which other one is gone to from there.
type modelWord struct {
	name    string
	tokens  []string
	partner map[int]int
}

var modelTakes = map[string]int{
	"+": 2, "-": 2, "*": 2, "/": 2, "mod": 2, "=": 2, "<": 2, "dup": 1, "drop": 1, "swap": 2, "over": 2, "rot": 3,
	".": 1, "emit": 1, "@": 1, "!": 2,
}

const modelBound = " ; { } if else then begin until while repeat do loop i recurse exit "

func newModel() *model {
	return &model{words: map[string]*modelWord{}, modelHeat: newModelHeat(5, 1)}
}

func (m *model) line(text string) (string, api.Errno) {
	if len(text) > api.MaxLine || strings.ContainsFunc(text, func(r rune) bool { return r < ' ' || r > '~' }) {
		return "", api.ErrText
	}
	m.out, m.steps, m.depth = "", 0, 0
	var tokens []string
	for _, token := range strings.Split(text, " ") {
		if token != "" {
			tokens = append(tokens, token)
		}
	}
	why := m.tokens(tokens)
	if why != api.OK {
		m.stack = nil
	}
	return m.out, why
}

func (m *model) tokens(tokens []string) api.Errno {
	for at := 0; at < len(tokens); at++ {
		if tokens[at] == ":" {
			name, word, end, why := m.read(tokens, at+1)
			if why == api.OK {
				why = m.step()
			}
			if why != api.OK {
				return why
			}
			m.words[name], at = word, end
			m.defined(name)
			continue
		}
		if why := m.token(tokens[at]); why != api.OK {
			return why
		}
	}
	return api.OK
}

func (m *model) step() api.Errno {
	if m.steps == api.MaxFuel {
		return api.ErrFuel
	}
	m.steps++
	return api.OK
}

func modelNumber(token string) bool {
	digits := strings.TrimPrefix(token, "-")
	return digits != "" && len(digits) < 19 && strings.Trim(digits, "0123456789") == ""
}

// token runs what is the same in a line and in a body.
func (m *model) token(token string) api.Errno {
	count, plain := modelTakes[token]
	word := m.words[token]
	switch {
	case strings.Contains(modelBound, " "+token+" "):
		return api.ErrForm
	case !plain && word == nil && !modelNumber(token):
		return api.ErrWord
	}
	if why := m.step(); why != api.OK {
		return why
	}
	switch {
	case word != nil:
		return m.deeper(func() api.Errno { return m.enter(word) })
	case !plain:
		number, _ := new(big.Int).SetString(token, 10)
		return m.put(number)
	}
	taken, why := m.take(count)
	if why != api.OK {
		return why
	}
	return m.plain(token, taken)
}

func (m *model) take(count int) ([]*big.Int, api.Errno) {
	rest := len(m.stack) - count
	if rest < 0 {
		return nil, api.ErrUnder
	}
	taken := append([]*big.Int{}, m.stack[rest:]...)
	m.stack = m.stack[:rest]
	return taken, api.OK
}

func (m *model) plain(token string, taken []*big.Int) api.Errno {
	first, last := taken[0], taken[len(taken)-1]
	switch token {
	case "+":
		return m.put(new(big.Int).Add(first, last))
	case "-":
		return m.put(new(big.Int).Sub(first, last))
	case "*":
		return m.put(new(big.Int).Mul(first, last))
	case "/", "mod":
		if last.Sign() == 0 {
			return api.ErrZero
		}
		quotient := floor(first, last)
		if token == "/" {
			return m.put(quotient)
		}
		return m.put(new(big.Int).Sub(first, new(big.Int).Mul(last, quotient)))
	case "=":
		return m.put(so(first.Cmp(last) == 0))
	case "<":
		return m.put(so(first.Cmp(last) < 0))
	case "dup":
		return m.put(first, first)
	case "swap":
		return m.put(last, first)
	case "over":
		return m.put(first, last, first)
	case "rot":
		return m.put(taken[1], last, first)
	case ".":
		return m.print(first.String() + " ")
	case "emit":
		rest := new(big.Int).Mod(first, big.NewInt(95))
		return m.print(string(rune(32 + rest.Int64())))
	case "@", "!":
		return m.cell(token, first, last)
	}
	return api.OK
}

func (m *model) cell(token string, first, place *big.Int) api.Errno {
	if place.Sign() < 0 || place.Cmp(big.NewInt(api.Cells)) >= 0 {
		return api.ErrCell
	}
	if token == "!" {
		m.cells[place.Int64()] = first
		return api.OK
	}
	if value := m.cells[place.Int64()]; value != nil {
		return m.put(value)
	}
	return m.put(new(big.Int))
}

func (m *model) put(numbers ...*big.Int) api.Errno {
	for _, number := range numbers {
		m.stack = append(m.stack, wrap(number))
	}
	if len(m.stack) > api.MaxStack {
		return api.ErrOver
	}
	return api.OK
}

func (m *model) print(text string) api.Errno {
	if len(m.out+text) > api.MaxOut {
		return api.ErrOut
	}
	m.out += text
	return api.OK
}

// floor is the quotient, rounded down; Div alone leaves a rest that is not
// below 0, which is not the same for divisors below 0.
func floor(a, b *big.Int) *big.Int {
	if b.Sign() < 0 {
		a, b = new(big.Int).Neg(a), new(big.Int).Neg(b)
	}
	return new(big.Int).Div(a, b)
}

func wrap(number *big.Int) *big.Int {
	half := new(big.Int).Lsh(big.NewInt(1), 63)
	whole := new(big.Int).Lsh(big.NewInt(1), 64)
	shifted := new(big.Int).Add(number, half)
	return shifted.Mod(shifted, whole).Sub(shifted, half)
}

func so(is bool) *big.Int {
	if is {
		return big.NewInt(-1)
	}
	return new(big.Int)
}

// randomLine is made of tokens of all kinds; most are such that lines go on.
func randomLine(random *rand.Rand) string {
	common := strings.Fields("0 1 2 -1 3 15 -7 95 999999999999999999 -999999999999999999 123456789012 " +
		"+ - * * / mod = < dup dup drop swap over over rot . . emit @ !")
	seldom := strings.Fields("16 -999999999999999999 1000000000000000000 x if ; { i - -- 1. dupp")
	var line strings.Builder
	line.WriteString("5 7 -3 ")
	for range random.Intn(60) {
		from := common
		if random.Intn(80) == 0 {
			from = seldom
		}
		line.WriteString(from[random.Intn(len(from))])
		line.WriteString(strings.Repeat(" ", 1+random.Intn(2)))
	}
	return line.String()
}

func TestRandomLinesAnswerAsTheModel(t *testing.T) {
	random := rand.New(rand.NewSource(1))
	told := map[api.Errno]int{}
	for range 3000 {
		session, other := New(), newModel()
		for range 4 {
			text := randomLine(random)
			out, why := other.line(text)
			says(t, session, answer{text, out, why})
			told[why]++
		}
	}
	for _, why := range []api.Errno{api.OK, api.ErrWord, api.ErrForm, api.ErrUnder, api.ErrOver, api.ErrZero, api.ErrCell} {
		if told[why] == 0 {
			t.Errorf("no random line was answered by %d", why)
		}
	}
}

func TestPairsOfNumbersAnswerAsTheModel(t *testing.T) {
	numbers := []string{
		"0", "1", "-1", "2", "-2", "3", "7", "-7", "94", "95", "-95", "999999999999999999", "-999999999999999999",
		strings.TrimSpace(least), least + "1 -", least + "1 +", least + "2 -", least + "2 /",
	}
	for _, a := range numbers {
		for _, b := range numbers {
			for word := range modelTakes {
				text := a + " " + b + " " + word + " dup . emit"
				out, why := newModel().line(text)
				eachSays(t, answer{text, out, why})
			}
		}
	}
}
