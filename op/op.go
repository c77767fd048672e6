// Package op: the instructions that code is made of. Package lang lays them
// down, package vm looks them over and runs them.
//
// An instruction is the byte of its Op, and behind it its numbers. It works on
// slots, whole numbers of 64 bits: the first ones are the registers. A truth is
// 0 or 1. A road or a packet is its index: in the view's Roads; in Fresh, or in
// Again and MaxQueue more; NONE is None. A set is a number too, with the bit of
// each index that it has.
//
// An instruction reads its slots ahead of writing one, which may be among them.
//
// Blocks stand in one another, and nothing leads back but the End of a Loop: so
// how many steps a run needs at most is plain to see from the code.
package op

import "helm/api"

// An Op says what an instruction does. The capital letters beside them are its
// numbers, in their order: A to D slots, N any number, L a list of the view.
type Op byte

const (
	End    Op = iota // ends the If or Loop that was opened last, else the code
	Return           // ends the run
	If               // A: what follows, up to Else or End, is done if A is not 0
	Else             // ... and what follows here, if it is 0
	Loop             // L A B: what follows, up to End, is done with A as each index of L that B has when it begins
	Skip             // A: goes on to the next one of the Loop, if A is 0
	Number           // A N: A becomes N
	Copy             // A B: A becomes B
	Minus            // A B
	Not              // A B
	Add              // A B C: A becomes B + C, and so on
	Sub
	Mul
	Div
	Rem
	Less
	AtMost
	Equal
	Differ
	And
	Or
	All    // A L: A becomes the set of all in L
	Keep   // A B: the set A gets the index B
	Count  // A B: of the set B
	First  // A B: the least index in the set B, or None
	Least  // A B C D: if A is None, or D less than B: A becomes C, and B becomes D
	Most   // A B C D: likewise, if D is greater
	IsNone // A B
	Id     // A B: of the road B
	Rtt
	Cwnd
	Out
	Lossy
	Seq // A B: of the packet B
	Size
	On   // A B C: whether the packet B went over the road C
	Push // A B: onto the road A, the packet B
)

// None is the index of no road and no packet.
const None = -1

// The lists of a view.
const (
	Roads = iota
	Fresh
	Again
	Lists
)

const (
	Registers = 8

	// A slot that is held stands for two bytes of a text at least.
	MaxSlots = Registers + api.MaxText/2
)

// ListSize tells how many there are in a list at most.
func ListSize(list int) int {
	if list == Roads {
		return api.MaxRoads
	}
	return api.MaxQueue
}

// The letters of a shape.
const (
	Slot = 's'
	Any  = 'n'
	List = 'l'
)

// Shape tells which numbers an instruction has, a letter each; false, if there
// is no such instruction.
func Shape(o Op) (string, bool) {
	switch o {
	case End, Return, Else:
		return "", true
	case If, Skip:
		return "s", true
	case Number:
		return "sn", true
	case All:
		return "sl", true
	case Copy, Minus, Not, Keep, Count, First, IsNone, Id, Rtt, Cwnd, Out, Lossy, Seq, Size, Push:
		return "ss", true
	case Loop:
		return "lss", true
	case Add, Sub, Mul, Div, Rem, Less, AtMost, Equal, Differ, And, Or, On:
		return "sss", true
	case Least, Most:
		return "ssss", true
	}
	return "", false
}
