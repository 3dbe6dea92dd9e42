package cpu_test

import (
	"math/big"
	"slices"
	"strconv"
	"strings"
	"testing"

	"clevis/api"
	"clevis/code"
	"clevis/cpu"
	"clevis/space"
)

// model is a machine built otherwise: it goes by the lines of the instructions, computes with numbers without a limit, and keeps each byte for itself.
type model struct {
	regions []api.Region
	bytes   map[int]byte
}

func modelOf(t *testing.T, mem *space.Space) *model {
	t.Helper()
	m := &model{regions: mem.Regions(), bytes: map[int]byte{}}
	for _, r := range m.regions {
		b, e := mem.Peek(r.At, r.Size)
		wantOK(t, "Peek", e)
		for i, x := range b {
			m.bytes[r.At+i] = x
		}
	}
	return m
}

// wrapped is n modulo 2^64, as an int.
func wrapped(n *big.Int) int {
	whole := new(big.Int).Lsh(big.NewInt(1), 64)
	rest := new(big.Int).Mod(n, whole)
	if rest.Bit(63) == 1 {
		rest.Sub(rest, whole)
	}
	return int(rest.Int64())
}

func modelSum(numbers ...int) int {
	sum := new(big.Int)
	for _, n := range numbers {
		sum.Add(sum, big.NewInt(int64(n)))
	}
	return wrapped(sum)
}

func modelProduct(a, b int) int {
	return wrapped(new(big.Int).Mul(big.NewInt(int64(a)), big.NewInt(int64(b))))
}

func modelQuotient(a, b int) int {
	return wrapped(new(big.Int).Quo(big.NewInt(int64(a)), big.NewInt(int64(b))))
}

// check looks for the region of the eight bytes from at on.
func (m *model) check(at int, need api.Perm) api.Errno {
	for _, r := range m.regions {
		if at >= r.At && at < r.At+r.Size {
			switch {
			case at+8 > r.At+r.Size:
				return api.ErrSpaceFree
			case r.Perm&need == 0:
				return api.ErrSpacePerm
			}
			return api.OK
		}
	}
	return api.ErrSpaceFree
}

func (m *model) load(at int) int {
	n := new(big.Int)
	for i := 7; i >= 0; i-- {
		n.Mul(n, big.NewInt(256))
		n.Add(n, big.NewInt(int64(m.bytes[at+i])))
	}
	return wrapped(n)
}

func (m *model) store(at, n int) {
	rest := new(big.Int).Mod(big.NewInt(int64(n)), new(big.Int).Lsh(big.NewInt(1), 64))
	for i := range 8 {
		low := new(big.Int)
		rest.DivMod(rest, big.NewInt(256), low)
		m.bytes[at+i] = byte(low.Int64())
	}
}

// line returns the words of the instruction at at.
func (m *model) line(at int) ([]string, api.Errno) {
	if e := m.check(at, api.Exec); e != api.OK {
		return nil, e
	}
	var b []byte
	for i := range 8 {
		b = append(b, m.bytes[at+i])
	}
	is, e := code.Decode(b)
	if e != api.OK {
		return nil, api.ErrCode
	}
	text, _ := code.Print(is...)
	return strings.Fields(text), api.OK
}

// operands tells which registers the words name, and the number.
func operands(words []string) (rs [3]int, number int) {
	for i, word := range words[1:] {
		if digits, ok := strings.CutPrefix(word, "r"); ok {
			rs[i], _ = strconv.Atoi(digits)
		} else {
			number, _ = strconv.Atoi(word)
		}
	}
	return rs, number
}

// step is what the document's table says, row by row.
func (m *model) step(c api.Context) (api.Context, api.Event) {
	if c.PC == 0 {
		return c, api.Event{Kind: api.Done}
	}
	words, e := m.line(c.PC)
	if e != api.OK {
		return c, api.Event{Kind: api.Trapped, Fault: e}
	}
	rs, number := operands(words)
	after, event := c, api.Event{Kind: api.Ran}
	next := modelSum(c.PC, 8)
	after.PC = next
	a, b, d := c.Regs[rs[0]], c.Regs[rs[1]], c.Regs[rs[2]]
	switch words[0] {
	case "movi":
		after.Regs[rs[0]] = number
	case "mov":
		after.Regs[rs[0]] = b
	case "add":
		after.Regs[rs[0]] = modelSum(b, d)
	case "sub":
		after.Regs[rs[0]] = modelSum(b, modelProduct(d, -1))
	case "mul":
		after.Regs[rs[0]] = modelProduct(b, d)
	case "less":
		after.Regs[rs[0]] = map[bool]int{true: 1}[big.NewInt(int64(b)).Cmp(big.NewInt(int64(d))) < 0]
	case "same":
		after.Regs[rs[0]] = map[bool]int{true: 1}[strconv.Itoa(b) == strconv.Itoa(d)]
	case "lea":
		after.Regs[rs[0]] = modelSum(next, number)
	case "tp":
		after.Regs[rs[0]] = c.TP
	case "jmp":
		after.PC = modelSum(next, number)
	case "jz":
		if a == 0 {
			after.PC = modelSum(next, number)
		}
	case "jmpr":
		after.PC = a
	case "out":
		event = api.Event{Kind: api.Told, N: a}
	case "tls":
		event = api.Event{Kind: api.AskTls, A: rs[0], B: rs[1]}
	case "bind":
		event = api.Event{Kind: api.AskBind, N: number}
	default:
		if e := m.mayTrap(words[0], &after, rs, number); e != api.OK {
			return c, api.Event{Kind: api.Trapped, Fault: e}
		}
	}
	return after, event
}

// mayTrap has the rows of the table that trap; c is the context with PC at Next.
func (m *model) mayTrap(name string, c *api.Context, rs [3]int, number int) api.Errno {
	a, b, d, next := c.Regs[rs[0]], c.Regs[rs[1]], c.Regs[rs[2]], c.PC
	switch name {
	case "div":
		if d == 0 {
			return api.ErrArg
		}
		c.Regs[rs[0]] = modelQuotient(b, d)
		return api.OK
	case "ld":
		return m.loadInto(&c.Regs[rs[0]], modelSum(b, number))
	case "ldp":
		return m.loadInto(&c.Regs[rs[0]], modelSum(next, number))
	case "st":
		return m.storeAt(modelSum(b, number), a)
	case "call", "callr":
		c.PC = a
		if name == "call" {
			c.PC = modelSum(next, number)
		}
		c.Regs[15] = modelSum(c.Regs[15], -8)
		return m.storeAt(c.Regs[15], next)
	case "ret":
		top := c.Regs[15]
		c.Regs[15] = modelSum(top, 8)
		return m.loadInto(&c.PC, top)
	}
	return api.ErrCode
}

func (m *model) loadInto(to *int, at int) api.Errno {
	if e := m.check(at, api.Read); e != api.OK {
		return e
	}
	*to = m.load(at)
	return api.OK
}

func (m *model) storeAt(at, n int) api.Errno {
	if e := m.check(at, api.Write); e != api.OK {
		return e
	}
	m.store(at, n)
	return api.OK
}

func (m *model) run(c api.Context, most int) (api.Context, api.Event, int) {
	count := 0
	for count < most {
		after, event := m.step(c)
		if event.Kind == api.Done || event.Kind == api.Trapped {
			return c, event, count
		}
		c = after
		count++
		if event.Kind != api.Ran {
			return c, event, count
		}
	}
	if c.PC == 0 {
		return c, api.Event{Kind: api.Done}, count
	}
	return c, api.Event{Kind: api.Spent}, count
}

func (m *model) wantSame(t *testing.T, mem *space.Space) {
	t.Helper()
	if !slices.Equal(mem.Regions(), m.regions) {
		t.Fatalf("the regions are %v, want %v", mem.Regions(), m.regions)
	}
	for _, r := range m.regions {
		b, e := mem.Peek(r.At, r.Size)
		wantOK(t, "Peek", e)
		for i, x := range b {
			if x != m.bytes[r.At+i] {
				t.Fatalf("the byte at %d is %d, want %d", r.At+i, x, m.bytes[r.At+i])
			}
		}
	}
}

// draws tells numbers by a rule, the same ones in every run.
type draws uint64

func (d *draws) below(n int) int {
	*d = *d*6364136223846793005 + 1442695040888963407
	return int(uint64(*d) >> 33 % uint64(n))
}

func (d *draws) among(numbers ...int) int {
	return numbers[d.below(len(numbers))]
}

// instruction is mostly such that the program goes on within its regions.
func (d *draws) instruction() api.Inst {
	i := api.Inst{Op: api.Op(d.below(23)), A: d.below(16), B: d.below(16), C: d.below(16)}
	switch i.Op {
	case api.Jmp, api.Jz, api.Call:
		i.Imm = 8 * (d.below(12) - 4)
	case api.Movi:
		i.Imm = d.among(0, 1, -1, 8, dataAt, dataAt+32, codeAt, readAt, 1<<31-1, -1<<31)
	case api.Ld, api.St, api.Ldp, api.Lea:
		i.Imm = d.below(40) - 8
	case api.Bind:
		i.Imm = d.below(9) - 2
	}
	return trimmed(i)
}

// trimmed takes from an instruction what it has no room for.
func trimmed(i api.Inst) api.Inst {
	if code.May(i) != api.OK {
		i.C = 0
	}
	if code.May(i) != api.OK {
		i.B = 0
	}
	if code.May(i) != api.OK {
		i.A = 0
	}
	return i
}

func (d *draws) memory(t *testing.T) *space.Space {
	t.Helper()
	mem := memoryOf(t, regionsOf()...)
	wantOK(t, "Protect", mem.Protect(codeAt, api.Perm(d.among(4, 5, 5, 7))))
	for w := codeAt; w < dataAt; w += 8 {
		b, e := code.Encode(d.instruction())
		wantOK(t, "Encode", e)
		wantOK(t, "Poke", mem.Poke(w, b...))
	}
	for w := dataAt; w < dataAt+2*page; w += 8 {
		wantOK(t, "PokeWord", mem.PokeWord(w, d.among(0, 0, codeAt, codeAt+40, dataAt, -1, fill(w))))
	}
	return mem
}

func (d *draws) context() api.Context {
	c := api.Context{PC: codeAt + 8*d.below(16), TP: d.among(0, 5, dataAt)}
	for r := range c.Regs {
		c.Regs[r] = d.among(0, 1, -1, 2, -3, dataAt, dataAt+64, codeAt+16, codeAt+64, readAt, writeAt, least, great, 1<<32+1)
	}
	c.Regs[15] = dataAt + 8*d.below(16)
	return c
}

// P6.1 and P6.3: many steps of programs made by a rule, each of which does what the model does, and writes no other byte.
func TestModelSteps(t *testing.T) {
	d := draws(3)
	var ran, trapped [23]int
	for range 400 {
		mem, c := d.memory(t), d.context()
		m := modelOf(t, mem)
		for range 60 {
			op := m.bytes[c.PC]
			got, event := cpu.Step(c, mem)
			want, wantEvent := m.step(c)
			if got != want || event != wantEvent {
				t.Fatalf("Step from %v: %v and %v, want %v and %v", c, got, event, want, wantEvent)
			}
			switch {
			case event.Kind == api.Trapped && int(op) < len(trapped):
				trapped[op]++
			case event.Kind != api.Done && event.Kind != api.Trapped:
				ran[op]++
			}
			c = got
			if event.Kind == api.Trapped || event.Kind == api.Done {
				c.PC = codeAt + 8*d.below(16)
			}
		}
		m.wantSame(t, mem)
	}
	for op, n := range ran {
		if n < 100 && api.Op(op) != api.Halt {
			t.Errorf("instruction %d was executed only %d times", op, n)
		}
	}
	for _, op := range []api.Op{api.Halt, api.Div, api.Ld, api.St, api.Ldp, api.Call, api.Callr, api.Ret} {
		if trapped[op] < 10 {
			t.Errorf("instruction %d trapped only %d times", op, trapped[op])
		}
	}
}

// P6.2: runs of programs made by a rule, with fewer steps than they have and with more.
func TestModelRuns(t *testing.T) {
	d := draws(11)
	var seen [api.Spent + 1]int
	for range 600 {
		mem, c := d.memory(t), d.context()
		m := modelOf(t, mem)
		for range 8 {
			most := d.below(14) - 1
			want, wantEvent, wantCount := m.run(c, most)
			wantRun(t, mem, c, most, want, wantEvent, wantCount)
			seen[wantEvent.Kind]++
			c = want
			if wantEvent.Kind == api.Trapped || wantEvent.Kind == api.Done {
				c.PC = codeAt + 8*d.below(16)
			}
		}
		m.wantSame(t, mem)
		if t.Failed() {
			return
		}
	}
	for kind, n := range seen {
		if n < 20 && api.EventKind(kind) != api.Ran {
			t.Errorf("only %d runs ended with the event %d", n, kind)
		}
	}
}

// P6.3: a run of n + m steps is one of n steps and then one of m, if the first one returns Spent; otherwise it is the run of n steps.
func TestRunsInPieces(t *testing.T) {
	d := draws(5)
	for range 150 {
		mem, c := d.memory(t), d.context()
		for total := range 12 {
			whole := mem.Copy()
			want, wantEvent, wantCount := cpu.Run(c, whole, total)
			for n := range total + 1 {
				parts := mem.Copy()
				got, event, count := cpu.Run(c, parts, n)
				if event.Kind == api.Spent {
					var more int
					got, event, more = cpu.Run(got, parts, total-n)
					count += more
				}
				if got != want || event != wantEvent || count != wantCount {
					t.Fatalf("Runs with %d and %d: %v, %v and %d, want %v, %v and %d", n, total-n, got, event, count, want, wantEvent, wantCount)
				}
				wantMemory(t, "runs in pieces", parts, whole)
			}
		}
	}
}

// P6.3: likewise a run of n steps is n steps of their own.
func TestRunIsSteps(t *testing.T) {
	const text = "movi r1 7\nmovi r2 8\nmul r3 r1 r2\nst r3 r9 0\nld r4 r9 0\ncall 8\nhalt\nadd r4 r4 r4\nret"
	for n := range 9 {
		mem := programAt(t, codeAt, text)
		c := contextAt(codeAt, regs{9: dataAt, 15: dataAt + 64})
		steps, other := mem.Copy(), c
		for range n {
			var e api.Event
			if other, e = cpu.Step(other, steps); e != event(api.Ran) {
				t.Fatalf("a step of %d: %v", n, e)
			}
		}
		wantRun(t, mem, c, n, other, event(api.Spent), n)
		wantMemory(t, "the run", mem, steps)
	}
}
