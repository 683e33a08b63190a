package group_test

import (
	"math/rand"
	"strconv"
	"strings"
	"testing"

	"rialto/api"
)

// someAct is one of a kind that may do something here, mostly.
func someAct(r *rand.Rand, q *pair, nodes int) api.GroupAct {
	node := 1 + r.Intn(nodes)
	switch n := r.Intn(200); {
	case n < 60:
		return api.GroupAct{Kind: api.GrTick}
	case n < 130:
		return api.GroupAct{Kind: api.GrDeliver, N: r.Intn(1 + len(q.p.way)/(1+r.Intn(4)))}
	case n < 135:
		return api.GroupAct{Kind: api.GrDrop, N: r.Intn(1 + len(q.p.way))}
	case n < 140:
		return api.GroupAct{Kind: api.GrDouble, N: r.Intn(1 + len(q.p.way))}
	case n < 165:
		for i := 1; i <= nodes && r.Intn(4) > 0; i++ {
			if q.role(i) == api.RoleLeader {
				node = i
			}
		}
		return api.GroupAct{Kind: api.GrPropose, Node: node, Text: someText(r)}
	case n < 169:
		return api.GroupAct{Kind: api.GrDraw, Node: node, N: 2 + r.Intn(20)}
	case n < 173:
		return api.GroupAct{Kind: api.GrFuse, Node: node, N: r.Intn(8) - 2}
	case n < 178:
		return api.GroupAct{Kind: api.GrCrash, Node: node, Keep: []int{r.Intn(60) - 10, r.Intn(60)}}
	case n < 190:
		return api.GroupAct{Kind: api.GrRestart, Node: node}
	case n < 198:
		l := q.g.Node(node).Log
		return api.GroupAct{Kind: api.GrSave, Node: node, N: l.Base.Index + r.Intn(2+l.Commit-l.Base.Index), Text: someText(r)}
	}
	return api.GroupAct{Kind: r.Intn(14) - 1, Node: r.Intn(nodes+4) - 1, N: r.Intn(3000) - 1000, Text: someText(r), Keep: []int{r.Intn(100)}}
}

func someText(r *rand.Rand) string {
	switch r.Intn(40) {
	case 0:
		return strings.Repeat("y", 3998+r.Intn(5))
	case 1:
		return strings.Repeat("z", r.Intn(300))
	}
	return strconv.Itoa(r.Intn(1000))
}

// TestRandom does the same acts on a group and on a plain one: on disks great and small, with much room for packets and little.
func TestRandom(t *testing.T) {
	seen := map[api.Errno]int{}
	leads := 0
	for seed := range int64(280) {
		r := rand.New(rand.NewSource(seed))
		c := api.GroupConfig{Nodes: 1 + int(seed)%7, Disk: []int{100000, 256, 3000, 1 << 20}[r.Intn(4)], Room: []int{100, 3, 3000, 10}[r.Intn(4)]}
		q := newPair(t, c)
		for range 700 {
			a := someAct(r, q, c.Nodes)
			_, e := q.do(a)
			seen[e]++
			if a.Kind == api.GrPropose && e == api.OK {
				leads++
			}
		}
	}
	for _, e := range []api.Errno{api.OK, api.ErrArg, api.ErrLong, api.ErrDiskDown, api.ErrDiskFull, api.ErrNetFull, api.ErrNetNone, api.ErrSnapIndex, api.ErrRaftLeader, api.ErrGroupAct} {
		if seen[e] < 5 {
			t.Errorf("%d was answered %d times alone", e, seen[e])
		}
	}
	if leads < 500 {
		t.Errorf("only %d were proposed", leads)
	}
}
