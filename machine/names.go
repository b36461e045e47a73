package machine

import "strings"

// The builtins.
const (
	bPrint = iota
	bInput
	bLen
	bRange
	bStr
	bRepr
	bInt
	bFloat
	bBool
	bList
	bTuple
	bDict
	bSet
	bIter
	bNext
	bIsinstance
	bHash
	bAbs
	bChr
	bOrd
	exception
	typeError
	valueError
	nameError
	assertionError
	zeroError
	indexError
	keyError
	attributeError
	overflowError
	runtimeError
	stopIteration
	eofError
	bMin
	bMax
	builtins
)

// The methods of the builtin kinds: numbers behind those of the builtins.
const (
	mAppend = builtins + iota
	mPop
	mGet
	mKeys
	mAdd
	mDiscard
	mJoin
)

// The builtin classes.
const (
	firstClass = exception
	lastClass  = eofError
	classes    = lastClass - firstClass + 1
)

// The names that the machine asks for itself.
const (
	sAdd = iota
	sSub
	sMul
	sEq
	sLt
	sContains
	sGetitem
	sSetitem
	sLen
	sStr
	sIter
	sNext
	sInit
	sCall
	sArgs
	names
)

const ownNames = "__add__ __sub__ __mul__ __eq__ __lt__ __contains__ __getitem__ __setitem__ __len__ __str__ __iter__ __next__ __init__ __call__ args"

// ownName is the text of such a name.
func ownName(n int) string { return strings.Fields(ownNames)[n] }
