package past

import (
	"testing"

	"rewind/api"
)

func TestTrackKeepsWhatAShotCanReach(t *testing.T) {
	for ticks := 1; ticks <= 60; ticks++ {
		k := Track{}
		for i := 1; i <= ticks; i++ {
			k.Add(api.Record{Tick: i, At: api.Point{X: 10 * i, Y: 7, Z: 1000 - 10*i}})
		}
		first := max(1, ticks-api.Window)
		for time := 0; time <= api.Sub*(ticks+1); time += api.Sub / 2 {
			halves := min(max(time, api.Sub*first), api.Sub*ticks) / (api.Sub / 2)
			want := api.Point{X: 5 * halves, Y: 7, Z: 1000 - 5*halves}
			if p := k.Pose(time); p != want {
				t.Fatalf("P15: of %d ticks, at the subtick %d: %v, want %v", ticks, time, p, want)
			}
		}
	}
}

func TestTrackCopyIsApart(t *testing.T) {
	k := Track{}
	k.Add(api.Record{Tick: 1, At: api.Point{X: 1}})
	other := k
	other.Add(api.Record{Tick: 2, At: api.Point{X: 2}})
	k.Add(api.Record{Tick: 2, At: api.Point{X: 3}})
	if k.Pose(512).X != 3 || other.Pose(512).X != 2 {
		t.Errorf("P2: two tracks tell %v and %v", k.Pose(512), other.Pose(512))
	}
}
