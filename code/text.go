package code

import (
	"clevis/api"
	"strconv"
	"strings"
)

// mostWords are a name, all registers and a number.
const mostWords = 1 + mostRegs + 1

// Print returns the lines of the instructions, one behind the other.
func Print(is ...api.Inst) (string, api.Errno) {
	if !areValid(is...) {
		return "", api.ErrCode
	}
	var b []byte
	for _, i := range is {
		b = appendLine(b, i)
	}
	return string(b), api.OK
}

// Parse returns the instructions that the lines are those of, or else the number of the first line that is wrong.
func Parse(text string) ([]api.Inst, int, api.Errno) {
	var is []api.Inst
	for line := range strings.Lines(text) {
		i, ok := fromLine(strings.TrimSuffix(line, "\n"))
		if !ok {
			return nil, len(is) + 1, api.ErrCodeText
		}
		is = append(is, i)
	}
	return is, 0, api.OK
}

func appendLine(b []byte, i api.Inst) []byte {
	s, regs := shapes[i.Op], registers(i)
	b = append(b, s.name...)
	for _, r := range regs[:s.regs] {
		b = append(b, " r"...)
		b = strconv.AppendInt(b, int64(r), 10)
	}
	if s.num {
		b = append(b, ' ')
		b = strconv.AppendInt(b, int64(i.Imm), 10)
	}
	return append(b, '\n')
}

func fromLine(line string) (api.Inst, bool) {
	// A long line that is wrong need not be split any further than it takes to see that there are too many words.
	words := strings.SplitN(line, " ", mostWords+1)
	op, ok := opNamed(words[0])
	if !ok {
		return api.Inst{}, false
	}
	regs, imm, ok := operands(shapes[op], words[1:])
	i := api.Inst{Op: op, A: regs[0], B: regs[1], C: regs[2], Imm: imm}
	return i, ok && May(i) == api.OK
}

func opNamed(name string) (api.Op, bool) {
	for op, s := range shapes {
		if s.name == name {
			return api.Op(op), true
		}
	}
	return 0, false
}

// operands leaves it to May whether the numbers are in their ranges.
func operands(s shape, words []string) (regs [mostRegs]int, imm int, ok bool) {
	count := s.regs
	if s.num {
		count++
	}
	if len(words) != count {
		return regs, 0, false
	}
	for at, word := range words[:s.regs] {
		digits, isReg := strings.CutPrefix(word, "r")
		if regs[at], ok = decimal(digits); !isReg || !ok {
			return regs, 0, false
		}
	}
	if s.num {
		imm, ok = decimal(words[s.regs])
		return regs, imm, ok
	}
	return regs, 0, true
}

// decimal takes only the one form in which a number is printed: no leading zeros, no `+` and no `-0`.
func decimal(word string) (int, bool) {
	n, err := strconv.Atoi(word)
	return n, err == nil && strconv.Itoa(n) == word
}
