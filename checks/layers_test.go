package checks

import (
	"path"
	"slices"
	"strconv"
	"strings"
	"testing"
)

// layers says which layers a layer calls.
const layers = `
natural
integer natural
rational integer
interval rational
root rational interval
angle rational interval
matrix rational
polynomial rational interval
sturm rational polynomial
piecewise rational polynomial sturm
vector rational
mesh vector
clip vector mesh
mass vector mesh clip
shape rational mesh vector
attitude rational
float vector clip mass attitude
particulars rational attitude float
bonjean clip float attitude
draft rational interval attitude float
trim interval attitude draft
tank rational mesh attitude float
liquid interval attitude draft tank
ledger rational tank
condition attitude tank liquid ledger
lever interval attitude draft trim condition
heeling angle tank lever
criterion rational tank
judge interval lever heeling criterion
booklet rational particulars draft lever judge
opening attitude
connection
flooding opening connection
lost attitude float opening
progress connection flooding lost
downflood opening lost
damage rational
table lost progress damage
subdivision clip mass damage
load rational
support clip mass attitude float load
shear rational load
limit rational load shear
pipe
transfer rational pipe
simplex rational
cargo rational
stowage rational cargo
search rational cargo stowage
bound rational cargo stowage search
sequence cargo stowage
refute stowage search bound
survey rational
incline rational
sensor rational
alarm rational sensor
record rational
approval record
computer cargo stowage sequence sensor alarm record approval
console cargo stowage search bound refute alarm record computer
`

// calls returns the layers that each layer calls.
func calls() map[string][]string {
	out := map[string][]string{}
	for line := range strings.Lines(strings.TrimSpace(layers)) {
		words := strings.Fields(line)
		out[words[0]] = words[1:]
	}
	return out
}

// DOC, section Overview: a layer calls those layers alone that are named there. Helpers, which are no layers, call none.
func TestLayers(t *testing.T) {
	permitted := calls()
	if len(permitted) != 60 {
		t.Fatalf("there are %d layers", len(permitted))
	}
	for _, s := range sources(t) {
		folder := path.Dir(s.path)
		if s.file.Name.Name != folder {
			t.Errorf("%s is in package %s", s.path, s.file.Name.Name)
		}
		for _, spec := range s.file.Imports {
			name, _ := strconv.Unquote(spec.Path.Value)
			called, isOwn := strings.CutPrefix(name, "garboard/")
			if _, isLayer := permitted[called]; isOwn && isLayer && !slices.Contains(permitted[folder], called) {
				t.Errorf("%s calls %s", s.at(spec), called)
			}
		}
	}
}
