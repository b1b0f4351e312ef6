package evaluate_test

import "testing"

// GOTO leads to the first rule behind it that has the label, past all others.
func TestJumps(t *testing.T) {
	heldAre(t, disk, []string{`GOTO="b"`, `TAG+="one"`, `LABEL="a"`, `LABEL="b"`, `TAG+="two"`, `LABEL="b"`}, 0, 3, 4, 5)
	heldAre(t, disk, []string{`GOTO="a"`, `LABEL="a"`}, 0, 1)
	heldAre(t, disk, []string{`TAG+="one"`, `GOTO="a"`, `GOTO="b"`, `LABEL="a"`, `GOTO="b"`, `TAG+="two"`, `LABEL="b"`}, 0, 1, 3, 4, 6)
}

// What is passed over has no effect.
func TestPassedOver(t *testing.T) {
	d := draftOf(t, disk, `TAG+="a", GOTO="end", TAG+="b"`, `PROGRAM=="say one", TAG+="c"`, `IMPORT{parent}=="*"`, `NAME:="x"`, `TAG+="d", LABEL="end", TAG+="e"`)
	listIs(t, "tags", d.Tags, "a", "b", "d", "e")
	ranAre(t, d, 0, 0, "")
	propsAre(t, d)
	if len(d.Closed) > 0 || d.Name != "" {
		t.Errorf("%+v", d)
	}
}

// GOTO does nothing if a match of its rule does not hold, wherever the match is written.
func TestNoJump(t *testing.T) {
	heldAre(t, disk, []string{`KERNEL=="none", GOTO="a"`, `TAG+="one"`, `LABEL="a"`}, 1, 2)
	heldAre(t, disk, []string{`GOTO="a", KERNEL=="none"`, `TAG+="one"`, `LABEL="a"`}, 1, 2)
	heldAre(t, disk, []string{`GOTO="a", PROGRAM=="bad"`, `GOTO="a", PROGRAM!="bad"`, `TAG+="one"`, `LABEL="a"`}, 1, 3)
}

// A rule with the label is read like any other: one of its matches may not hold.
func TestLabelThatDoesNotHold(t *testing.T) {
	heldAre(t, disk, []string{`GOTO="a"`, `TAG+="one"`, `KERNEL=="none", LABEL="a"`, `TAG+="two"`, `LABEL="a"`}, 0, 3, 4)
	heldAre(t, disk, []string{`GOTO="a"`, `TAG+="one"`, `LABEL="a", GOTO="b"`, `TAG+="two"`, `KERNEL=="none", LABEL="b", GOTO="c"`, `TAG+="three"`, `LABEL="c"`}, 0, 2, 5, 6)
}

// A label counts behind the GOTO alone: neither in its own rule nor ahead of it.
func TestLabelAhead(t *testing.T) {
	heldAre(t, disk, []string{`LABEL="a"`, `LABEL="a", GOTO="a"`, `TAG+="one"`, `LABEL="a"`, `TAG+="two"`}, 0, 1, 3, 4)
	heldAre(t, disk, []string{`GOTO="a", LABEL="a"`, `TAG+="one"`, `GOTO="a", LABEL="b"`, `LABEL="a", GOTO="b"`, `LABEL="a"`, `LABEL="b"`}, 0, 3, 5)
}

// Only a LABEL is a label: other terms with its value are none, and labels are compared as a whole.
func TestOtherValues(t *testing.T) {
	heldAre(t, disk, []string{`GOTO="a"`, `TAG+="a"`, `GOTO="a", NAME="a"`, `LABEL="A"`, `LABEL="aa"`, `OWNER="a", LABEL="b"`, `LABEL="a"`}, 0, 6)
}

// A LABEL does nothing by itself, and a rule of it alone holds.
func TestLabelAlone(t *testing.T) {
	heldAre(t, disk, []string{`LABEL="a"`, `LABEL="a"`, `TAG+="x"`}, 0, 1, 2)
	sameDraft(t, "a label", draftOf(t, disk, `LABEL="a"`), draftOf(t, disk))
}
