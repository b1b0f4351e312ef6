package grammar

import "coldplug/api"

// checkTerm reports what is wrong with a term, whatever its neighbours are.
func checkTerm(t api.Term) api.Errno {
	d, known := describe(t.Key)
	switch {
	case !known:
		return api.ErrGrammarKey
	case !d.isName(t.Name):
		return api.ErrGrammarName
	case !d.hasOp(t.Op):
		return api.ErrGrammarOp
	case !d.isRight(t):
		return api.ErrGrammarValue
	}
	return api.OK
}

// termOf returns the term that is written like this. It may have a key that is none, which Check refuses in its turn.
func termOf(t api.Token) api.Term {
	return api.Term{Key: keyOf(t.Key), Name: t.Name, Op: opOf(t.Op), Value: t.Value}
}

// tokenOf returns how a right term is written.
func tokenOf(t api.Term) api.Token {
	d, _ := describe(t.Key)
	return api.Token{Key: d.written, Name: t.Name, Op: opWritten(t.Op), Value: t.Value}
}

// count returns how many terms have a key.
func count(l []api.Term, key int) int {
	n := 0
	for _, t := range l {
		if t.Key == key {
			n++
		}
	}
	return n
}
