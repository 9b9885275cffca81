import Derived.Test.YtemmljcmmjcngaaDoorWQuoR
namespace Go.Proofs.YtemmljcmmjcngaaDoor
open Go.RowKit Go.Sort Go.Lib

set_option maxRecDepth 4000 in
set_option maxHeartbeats 1000000 in
theorem wtexts_walk (c n d : Int) (s : ByteArray) (w : World) (hc : -9223372036854775808 ≤ c ∧ c ≤ 9223372036854775807) (hn : -9223372036854775808 ≤ n ∧ n ≤ 9223372036854775807) (hd : -9223372036854775808 ≤ d ∧ d ≤ 9223372036854775807) (htab : Tab w) :
    Calls Tryd.prog 3 #[.int .i64 c, .int .i64 n, .int .i64 d, .string s] w fun e w' => e = .returned (.bool true) ∧ Below w.heap.size w w' := by
  obtain ⟨X, o, hX⟩ : ∃ (X : ByteArray) (o : Bool), pctV (pct n d) = .tuple #[.string X, .bool o] := ⟨_, _, rfl⟩
  obtain ⟨Y, p, hY⟩ : ∃ (Y : ByteArray) (p : Bool), pctV (qt s.data.toList) = .tuple #[.string Y, .bool p] := ⟨_, _, rfl⟩
  obtain ⟨Z, hZ⟩ : ∃ Z : ByteArray, (⟨(amtL c).toArray⟩ : ByteArray) = Z := ⟨_, rfl⟩
  have h1 := fun W h => percent_any n d hn hd W h
  have h2 := fun W => rpercent_any n d hn hd W
  have h3 := fun W => quote_any s W
  have h4 := fun W => rquote_any s W
  have h5 := fun W h => amount_any c hc.1 hc.2 W h
  have h6 := fun W => ramount_any c hc.1 hc.2 W
  rw [hX] at h1 h2
  rw [hY] at h3 h4
  rw [hZ] at h5 h6
  clear hX hY hZ hc hn hd
  by_cases hlong : (65536 : Int) < s.size
  · go_enter Tryd.func3, Tryd.ntmps3
    go_wp2_with fail
    go_ret
    exact ⟨rfl, Below.refl _ _⟩
  · go_enter Tryd.func3, Tryd.ntmps3
    go_wp2_with (first | (go_at_call 4; refine (h1 _ htab).mono ?_; rintro e w1 ⟨rfl, hb1⟩; have hB1 := hb1) | (go_at_call 5; refine (h2 _).mono ?_; rintro e w2 ⟨rfl, hb2⟩; have hB2 := below_step hB1 hb2) | (go_at_call 6; refine (h3 _).mono ?_; rintro e w3 ⟨rfl, hb3⟩; have hB3 := below_step hB2 hb3) | (go_at_call 7; refine (h4 _).mono ?_; rintro e w4 ⟨rfl, hb4⟩; have hB4 := below_step hB3 hb4; have htab4 := htab.later hB4) | (go_at_call 8; refine (h5 _ htab4).mono ?_; rintro e w5 ⟨rfl, hb5⟩; have hB5 := below_step hB4 hb5) | (go_at_call 9; refine (h6 _).mono ?_; rintro e w6 ⟨rfl, hb6⟩; have hB6 := below_step hB5 hb6))
    trace_state
    go_ret
    exact ⟨rfl, hB6⟩

end Go.Proofs.YtemmljcmmjcngaaDoor
