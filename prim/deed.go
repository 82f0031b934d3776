package prim

import "foundling/api"

// deed: what is done by a number, and with how many arguments.
type deed struct {
	args int
	do   func(*call) api.Word
}

// deedOf: that of a number; it does nothing if there is none.
func deedOf(n int) deed {
	deeds := [...]deed{
		1:  {1, (*call).add},
		2:  {1, (*call).sub},
		3:  {1, (*call).mul},
		4:  {1, (*call).floor},
		5:  {1, (*call).mod},
		6:  {1, (*call).quo},
		7:  {1, (*call).rem},
		8:  {1, (*call).and},
		9:  {1, (*call).or},
		10: {1, (*call).xor},
		11: {1, (*call).shift},
		12: {1, (*call).isBelow},
		13: {1, (*call).isAbove},
		14: {1, (*call).isNotAbove},
		15: {1, (*call).isNotBelow},
		16: {1, (*call).isAlike},
		17: {1, (*call).isUnlike},
		20: {1, (*call).isSame},
		21: {0, (*call).class},
		22: {0, (*call).hash},
		23: {0, (*call).newFields},
		24: {1, (*call).newList},
		25: {1, (*call).at},
		26: {2, (*call).atPut},
		27: {0, (*call).count},
		28: {1, (*call).become},
		29: {0, (*call).like},
		34: {1, (*call).understands},
		35: {0, (*call).name},
		36: {0, (*call).super},
		52: {0, (*call).digits},
		53: {0, (*call).symbol},
		54: {0, (*call).text},
		55: {1, (*call).isTextBelow},
		56: {1, (*call).isTextAlike},
		57: {1, (*call).joined},
		58: {2, (*call).part},
		59: {0, (*call).parsed},
		60: {0, (*call).put},
		61: {0, (*call).take},
	}
	if n < 0 || n >= len(deeds) {
		return deed{}
	}
	return deeds[n]
}
