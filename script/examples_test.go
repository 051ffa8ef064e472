package script_test

import (
	"bytes"
	"testing"

	"patina/api"
	"patina/script"
)

// The examples of the chapter's table.

func TestExamples(t *testing.T) {
	if b := script.Fill(255); len(b) != 160 || !bytes.HasPrefix(b, []byte{0xff, 0x06, 0x0d, 0x14}) {
		t.Errorf("Fill(255): %x", b)
	}

	wantParse(t, "read 3\n  write -1 0 # so\n\n# no more", []api.Step{{Kind: 1, A: 3}, {Kind: 2, A: -1}})

	wantFault(t, "raed 3", fault{1, 0, api.ErrWord})
	wantFault(t, "flip 3", fault{1, 6, api.ErrDue})
	wantFault(t, "trim 03", fault{1, 5, api.ErrNumber})
	wantFault(t, "mount 1", fault{1, 6, api.ErrBehind})
	wantFault(t, "cut 1\ncut 9223372036854775808", fault{2, 4, api.ErrNumber})

	wantText(t, []api.Step{{Kind: 9, A: 5}, {Kind: 4}}, "cut 5\nmount\n")
	wantNoText(t, []api.Step{{Kind: 11}}, 1)
	wantNoText(t, []api.Step{{Kind: 4, A: 1}}, 1)
}
