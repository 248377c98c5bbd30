package checks

import (
	"testing"

	"garboard/api"
)

// DOC, section Limits
func TestLimits(t *testing.T) {
	for name, c := range map[string][2]int{
		"MaxHalvings": {api.MaxHalvings, 24}, "MaxTriangles": {api.MaxTriangles, 512}, "MaxPoints": {api.MaxPoints, 256},
		"MaxTerms": {api.MaxTerms, 64}, "MaxDegree": {api.MaxDegree, 16}, "MaxPieces": {api.MaxPieces, 128},
		"MaxSize": {api.MaxSize, 12}, "MaxName": {api.MaxName, 64}, "MaxText": {api.MaxText, 4096},
		"MaxData": {api.MaxData, 65536}, "MaxList": {api.MaxList, 1024},
		"MaxTanks": {api.MaxTanks, 16}, "MaxCompartments": {api.MaxCompartments, 16}, "MaxOpenings": {api.MaxOpenings, 64},
		"MaxWeights": {api.MaxWeights, 64}, "MaxStations": {api.MaxStations, 32}, "MaxHeels": {api.MaxHeels, 24},
		"MaxStates": {api.MaxStates, 4096}, "MaxCode": {api.MaxCode, 9999}, "MaxCases": {api.MaxCases, 64},
		"MaxStages": {api.MaxStages, 17}, "MaxLoads": {api.MaxLoads, 64}, "MaxPipes": {api.MaxPipes, 64},
		"MaxTransfers": {api.MaxTransfers, 64}, "MaxValves": {api.MaxValves, 12},
		"MaxParcels": {api.MaxParcels, 6}, "MaxHolds": {api.MaxHolds, 6}, "MaxUnits": {api.MaxUnits, 9},
		"MaxClass": {api.MaxClass, 9}, "MaxRules": {api.MaxRules, 16}, "MaxWorks": {api.MaxWorks, 6},
		"MaxMarks": {api.MaxMarks, 16}, "MaxShifts": {api.MaxShifts, 16}, "MaxChannels": {api.MaxChannels, 16},
		"MaxSamples": {api.MaxSamples, 256}, "MaxAlarms": {api.MaxAlarms, 32}, "MaxTick": {api.MaxTick, 1073741824},
		"MaxEntries": {api.MaxEntries, 1024}, "MaxApprovals": {api.MaxApprovals, 16}, "MaxNodes": {api.MaxNodes, 8192},
	} {
		if c[0] != c[1] {
			t.Errorf("%s is %d", name, c[0])
		}
	}
}

// DOC, section Errors: the numbers of the errors are their places in this list.
func TestErrors(t *testing.T) {
	for i, e := range []api.Errno{api.OK, api.ErrArg, api.ErrRange, api.ErrSyntax, api.ErrName, api.ErrOrder, api.ErrTwice, api.ErrNotFound, api.ErrTooLarge, api.ErrEmpty, api.ErrMismatch, api.ErrState, api.ErrFull, api.ErrCorrupt, api.ErrProof, api.ErrLimit, api.ErrZero, api.ErrOpen, api.ErrSingular, api.ErrInfeasible, api.ErrUnbounded, api.ErrUndecided, api.ErrFounder, api.ErrDenied} {
		if int(e) != i {
			t.Errorf("the error at %d is %d", i, e)
		}
	}
}
