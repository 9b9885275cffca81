import Derived.Test.YtjgngmmepheioaaTurnPoH
import Derived.Test.YtjgngmmepheioaaJoin50
import Derived.Test.YtjgngmmepheioaaJoin47
import Derived.Test.YtjgngmmepheioaaJoin45
namespace Go.Proofs.Ytjgngmmepheioaa
open Go.RowKit

def YnQ (W : World) (e : Ending) (W' : World) : Prop := Below W.heap.size W W' ∧ ∃ b : Bool, e = .returned (.bool b)
theorem pke_any {W : World} {p : Pk} {cs : List Value} (h : PkE W AnyB p cs) : PkE W (fun b => b < W.heap.size) p cs := pke_mo h (fun _ hb _ => hb)
theorem pke_bel {W W' : World} {n : Nat} {p : Pk} {cs : List Value} (h : PkE W AnyB p cs) (hB : Below n W W') (hn : W.heap.size ≤ n) : PkE W' AnyB p cs := pke_fr h hB.size (fun b _ hlt => hB.block b (Nat.lt_of_lt_of_le hlt hn))
theorem get_back (p : Pk) (hr : RgP p) (a : Option Addr) (cap : Nat) (l : List UInt8) (W : World) (h : InB W a cap l) (hl : l.length ≤ 131072 ∧ l = encP p ++ sum4 (fnvB (encP p)) ∧ okP p) : Calls Try.prog 6 #[.slice a l.length cap] W fun e W' => Below W.heap.size W W' ∧ ∃ (a3 : Option Addr) (c3 : Nat) (a4 : Option Addr) (c4 : Nat) (a5 : Option Addr) (c5 : Nat) (a6 : Option Addr) (c6 : Nat) (a7 : Option Addr) (c7 : Nat), e = .returned (.tuple #[.agg #[.string ⟨p.name.toArray⟩, .int .i64 p.year, .slice a3 p.opts.length c3, .slice a4 p.tabs.length c4, .slice a5 p.grps.length c5, .slice a6 p.lns.length c6, .slice a7 p.cks.length c7], .int .i64 0, .int .i64 0]) ∧ PkE W' AnyB p [.string ⟨p.name.toArray⟩, .int .i64 p.year, .slice a3 p.opts.length c3, .slice a4 p.tabs.length c4, .slice a5 p.grps.length c5, .slice a6 p.lns.length c6, .slice a7 p.cks.length c7] := by
  obtain ⟨hl1, hl2, hok⟩ := hl
  have hc := cPack hr hok [] (by rw [List.append_nil, ← hl2]; omega)
  rw [List.append_nil, ← hl2, if_pos rfl] at hc
  refine (get_any a cap l W h).mono ?_
  rintro e W' ⟨hB, ⟨h1, rfl⟩ | ⟨-, ft, er, h1, -⟩ | ⟨-, q, a2, cs, h1, rfl, hE⟩⟩
  · omega
  · rw [hc] at h1; cases h1
  · rw [hc] at h1
    cases h1
    have hE0 := hE
    obtain ⟨a3, c3, a4, c4, a5, c5, a6, c6, a7, c7, rfl, -⟩ := hE0
    exact ⟨hB, a3, c3, a4, c4, a5, c5, a6, c6, a7, c7, rfl, pke_mo hE (fun _ _ _ => trivial)⟩
theorem same_pack (p q : Pk) (hz : SzP p) (a3 a4 a5 a6 a7 a3q a4q a5q a6q a7q : Option Addr) (c3 c4 c5 c6 c7 c3q c4q c5q c6q c7q : Nat) (W : World) (hE : PkE W AnyB p [.string ⟨p.name.toArray⟩, .int .i64 p.year, .slice a3 p.opts.length c3, .slice a4 p.tabs.length c4, .slice a5 p.grps.length c5, .slice a6 p.lns.length c6, .slice a7 p.cks.length c7]) (hF : PkE W AnyB q [.string ⟨q.name.toArray⟩, .int .i64 q.year, .slice a3q q.opts.length c3q, .slice a4q q.tabs.length c4q, .slice a5q q.grps.length c5q, .slice a6q q.lns.length c6q, .slice a7q q.cks.length c7q]) : Calls Try.prog 8 #[.agg #[.string ⟨p.name.toArray⟩, .int .i64 p.year, .slice a3 p.opts.length c3, .slice a4 p.tabs.length c4, .slice a5 p.grps.length c5, .slice a6 p.lns.length c6, .slice a7 p.cks.length c7], .agg #[.string ⟨q.name.toArray⟩, .int .i64 q.year, .slice a3q q.opts.length c3q, .slice a4q q.tabs.length c4q, .slice a5q q.grps.length c5q, .slice a6q q.lns.length c6q, .slice a7q q.cks.length c7q]] W (SmP (p = q) W) := by
  obtain ⟨_, _, _, _, _, _, _, _, _, _, e, -, h3, h4, h5, h6, h7⟩ := hE
  simp only [List.cons.injEq, Value.slice.injEq, and_true, true_and] at e
  obtain ⟨⟨rfl, -⟩, ⟨rfl, -⟩, ⟨rfl, -⟩, ⟨rfl, -⟩, ⟨rfl, -⟩⟩ := e
  obtain ⟨_, _, _, _, _, _, _, _, _, _, e, -, g3, g4, g5, g6, g7⟩ := hF
  simp only [List.cons.injEq, Value.slice.injEq, and_true, true_and] at e
  obtain ⟨⟨rfl, -⟩, ⟨rfl, -⟩, ⟨rfl, -⟩, ⟨rfl, -⟩, ⟨rfl, -⟩⟩ := e
  refine (samePack_any p.name q.name p.year q.year p.opts q.opts p.tabs q.tabs p.grps q.grps p.lns q.lns p.cks q.cks _ _ _ _ _ _ _ _ _ _ _ _ _ _ _ _ _ _ _ _ W ⟨⟨hz.opts.1, fun x hx => (hz.opts.2 x hx).2.1⟩, ⟨hz.tabs.1, fun x hx => (hz.tabs.2 x hx).2⟩, hz.grps.1⟩ ⟨⟨hz.lns.1, fun x hx => (hz.lns.2 x hx).2⟩, hz.cks.1, fun x hx => (hz.cks.2 x hx).2.2⟩ h3 g3 h4 g4 h5 g5 h6 g6 h7 g7).mono ?_
  rintro e W' ⟨hB, r, rfl, hr⟩
  refine ⟨hB, r, rfl, hr.trans ⟨fun h => ?_, fun h => ?_⟩⟩
  · obtain ⟨⟨h1, h2, h3, h4, h5⟩, h6, h7⟩ := h
    obtain ⟨_, _, _, _, _, _, _⟩ := p
    obtain ⟨_, _, _, _, _, _, _⟩ := q
    cases h1; cases h2; cases h3; cases h4; cases h5; cases h6; cases h7
    rfl
  · subst h
    exact ⟨⟨rfl, rfl, rfl, rfl, rfl⟩, rfl, rfl⟩
end Go.Proofs.Ytjgngmmepheioaa


namespace Go.Proofs.Ytjgngmmepheioaa.G
open Go.RowKit

theorem fo_len_le : ∀ f : Fo, f.len ≤ (encF f).length
  | .nil => Nat.zero_le _
  | .cons op num den mode args rest => by
    have h := fo_len_le rest
    have hp := encI_pos op
    unfold Fo.len encF
    simp only [List.length_append]
    omega
theorem szF_enc : ∀ f : Fo, (encF f).length ≤ 9223372036854775807 → SzF f
  | .nil, _ => trivial
  | .cons op num den mode args rest, h => by
    unfold encF at h
    simp only [List.length_append] at h
    by_cases h0 : args.len = 0
    · refine ⟨by omega, ?_, szF_enc rest (by omega)⟩
      cases args with
      | nil => trivial
      | cons a b c d x r => unfold Fo.len at h0; omega
    · rw [if_neg h0, List.length_append] at h
      have := fo_len_le args
      exact ⟨by omega, szF_enc args (by omega), szF_enc rest (by omega)⟩
theorem szE_enc {x : Ex} (h : (encE x).length ≤ 9223372036854775807) : SzE x := by
  unfold encE at h
  simp only [List.length_append] at h
  by_cases h0 : x.args.len = 0
  · refine ⟨by omega, ?_⟩
    cases hx : x.args with
    | nil => trivial
    | cons a b c d y r => rw [hx] at h0; unfold Fo.len at h0; omega
  · rw [if_neg h0, List.length_append] at h
    have := fo_len_le x.args
    exact ⟨by omega, szF_enc x.args (by omega)⟩
theorem mem_le {α : Type} {f : α → List UInt8} {l : List α} {x : α} {n : Nat} (hx : x ∈ l) (h : (encL f l).length ≤ n) : (f x).length ≤ n := by
  obtain ⟨i, hi, rfl⟩ := List.mem_iff_getElem.1 hx
  exact Nat.le_trans (item_le f l hi) h
/-- A pack whose bytes are few has small lists. -/
theorem szP_enc {p : Pk} (h : (encP p).length ≤ 9223372036854775807) : SzP p := by
  unfold encP at h
  simp only [List.length_append] at h
  refine ⟨text_len (by omega), ⟨list_len encO_pos (f := encO) (by omega), fun o ho => ?_⟩, ⟨list_len encT_pos (f := encT) (by omega), fun o ho => ?_⟩, ⟨list_len encG_pos (f := encG) (by omega), fun o ho => ?_⟩, ⟨list_len encLn_pos (f := encLn) (by omega), fun o ho => ?_⟩, ⟨list_len encK_pos (f := encK) (by omega), fun o ho => ?_⟩⟩
  · have h1 := mem_le (f := encO) (n := 9223372036854775807) ho (by omega)
    unfold encO at h1
    simp only [List.length_append] at h1
    exact ⟨text_len (by omega), list_len encS_pos (f := encS) (by omega), fun s hs => text_len (mem_le (f := encS) hs (by omega))⟩
  · have h1 := mem_le (f := encT) (n := 9223372036854775807) ho (by omega)
    unfold encT at h1
    simp only [List.length_append] at h1
    exact ⟨text_len (by omega), list_len encBd_pos (f := encBd) (by omega)⟩
  · have h1 := mem_le (f := encG) (n := 9223372036854775807) ho (by omega)
    unfold encG at h1
    simp only [List.length_append] at h1
    exact text_len (by omega)
  · have h1 := mem_le (f := encLn) (n := 9223372036854775807) ho (by omega)
    unfold encLn at h1
    simp only [List.length_append] at h1
    refine ⟨text_len (by omega), list_len encC_pos (f := encC) (by omega), fun c hc => ?_⟩
    have h2 := mem_le (f := encC) (n := 9223372036854775807) hc (by omega)
    unfold encC at h2
    simp only [List.length_append] at h2
    exact ⟨szE_enc (by omega), szE_enc (by omega)⟩
  · have h1 := mem_le (f := encK) (n := 9223372036854775807) ho (by omega)
    unfold encK at h1
    simp only [List.length_append] at h1
    exact ⟨text_len (by omega), text_len (by omega), szE_enc (by omega)⟩

/-- What a Get of these bytes tells: the pack, the fault's place and its number. -/
def ansG (l : List UInt8) : Pk × Nat × Nat := if 131072 < l.length then (pk0, 0, 72) else match rPack l 0 with
  | .error (ft, er) => (pk0, ft, er)
  | .ok (p, _) => (p, 0, 0)
theorem pke_zero (W : World) (S : Nat → Prop) : PkE W S pk0 [.string ⟨#[]⟩, .int .i64 0, .slice none 0 0, .slice none 0 0, .slice none 0 0, .slice none 0 0, .slice none 0 0] := by
  refine ⟨none, 0, none, 0, none, 0, none, 0, none, 0, rfl, ?_, .inl rfl, .inl rfl, .inl rfl, .inl rfl, .inl rfl⟩
  show Rg 0
  unfold Rg
  omega
theorem ans_sz (l : List UInt8) : SzP (ansG l).1 := by
  have h0 : SzP pk0 := szP_enc (by rw [enc0]; decide)
  unfold ansG
  split
  · exact h0
  · rename_i hl
    cases hr : rPack l 0 with
    | error x => exact h0
    | ok x =>
      have h1 := (rPack_sound hr).1
      refine szP_enc (p := x.1) ?_
      have h2 := congrArg List.length h1
      rw [List.length_append] at h2
      omega
theorem getP_ans {l : List UInt8} {W W' : World} {e : Ending} (h : GetP l W e W') : Below W.heap.size W W' ∧ ∃ cs : List Value, e = .returned (.tuple #[.agg cs.toArray, .int .i64 ((ansG l).2.1 : Int), .int .i64 ((ansG l).2.2 : Int)]) ∧ PkE W' (fun b => W.heap.size ≤ b) (ansG l).1 cs := by
  obtain ⟨hB, ⟨h1, rfl⟩ | ⟨h1, ft, er, h2, -, -, rfl⟩ | ⟨h1, p, a2, cs, h2, rfl, h3⟩⟩ := h
  · refine ⟨hB, [.string ⟨#[]⟩, .int .i64 0, .slice none 0 0, .slice none 0 0, .slice none 0 0, .slice none 0 0, .slice none 0 0], ?_, ?_⟩
    · unfold ansG; rw [if_pos h1]; rfl
    · unfold ansG; rw [if_pos h1]; exact pke_zero W' _
  · refine ⟨hB, [.string ⟨#[]⟩, .int .i64 0, .slice none 0 0, .slice none 0 0, .slice none 0 0, .slice none 0 0, .slice none 0 0], ?_, ?_⟩
    · unfold ansG; rw [if_neg (by omega), h2]
    · unfold ansG; rw [if_neg (by omega), h2]; exact pke_zero W' _
  · refine ⟨hB, cs, ?_, ?_⟩
    · unfold ansG; rw [if_neg (by omega), h2]; rfl
    · unfold ansG; rw [if_neg (by omega), h2]; exact h3
/-- What is asked of a Get, told by letters. -/
def AnsP (pk : Pk) (ft er : Int) (W : World) (e : Ending) (W' : World) : Prop := ∃ (a3 a4 a5 a6 a7 : Option Addr) (c3 c4 c5 c6 c7 : Nat), e = .returned (.tuple #[.agg #[.string ⟨pk.name.toArray⟩, .int .i64 pk.year, .slice a3 pk.opts.length c3, .slice a4 pk.tabs.length c4, .slice a5 pk.grps.length c5, .slice a6 pk.lns.length c6, .slice a7 pk.cks.length c7], .int .i64 ft, .int .i64 er]) ∧ Below W.heap.size W W' ∧ PkE W' (fun b => W.heap.size ≤ b) pk [.string ⟨pk.name.toArray⟩, .int .i64 pk.year, .slice a3 pk.opts.length c3, .slice a4 pk.tabs.length c4, .slice a5 pk.grps.length c5, .slice a6 pk.lns.length c6, .slice a7 pk.cks.length c7]
theorem getP_ansP {l : List UInt8} {W W' : World} {e : Ending} (h : GetP l W e W') : AnsP (ansG l).1 (ansG l).2.1 (ansG l).2.2 W e W' := by
  obtain ⟨hB, cs, rfl, hE⟩ := getP_ans h
  have hE0 := hE
  obtain ⟨a3, c3, a4, c4, a5, c5, a6, c6, a7, c7, rfl, -⟩ := hE0
  exact ⟨a3, a4, a5, a6, a7, c3, c4, c5, c6, c7, rfl, hB, hE⟩
/-- The same pack twice. -/
theorem same_self (pk : Pk) (hz : SzP pk) (a3 a4 a5 a6 a7 a3q a4q a5q a6q a7q : Option Addr) (c3 c4 c5 c6 c7 c3q c4q c5q c6q c7q : Nat) (W : World) (hE : PkE W AnyB pk [.string ⟨pk.name.toArray⟩, .int .i64 pk.year, .slice a3 pk.opts.length c3, .slice a4 pk.tabs.length c4, .slice a5 pk.grps.length c5, .slice a6 pk.lns.length c6, .slice a7 pk.cks.length c7]) (hF : PkE W AnyB pk [.string ⟨pk.name.toArray⟩, .int .i64 pk.year, .slice a3q pk.opts.length c3q, .slice a4q pk.tabs.length c4q, .slice a5q pk.grps.length c5q, .slice a6q pk.lns.length c6q, .slice a7q pk.cks.length c7q]) : Calls Try.prog 8 #[.agg #[.string ⟨pk.name.toArray⟩, .int .i64 pk.year, .slice a3 pk.opts.length c3, .slice a4 pk.tabs.length c4, .slice a5 pk.grps.length c5, .slice a6 pk.lns.length c6, .slice a7 pk.cks.length c7], .agg #[.string ⟨pk.name.toArray⟩, .int .i64 pk.year, .slice a3q pk.opts.length c3q, .slice a4q pk.tabs.length c4q, .slice a5q pk.grps.length c5q, .slice a6q pk.lns.length c6q, .slice a7q pk.cks.length c7q]] W fun e W' => e = .returned (.bool true) ∧ Below W.heap.size W W' :=
  (same_pack pk pk hz a3 a4 a5 a6 a7 a3q a4q a5q a6q a7q c3 c4 c5 c6 c7 c3q c4q c5q c6q c7q W hE hF).mono fun e W' ⟨hB, r, he, hr⟩ => ⟨by rw [he, hr.2 rfl], hB⟩

end Go.Proofs.Ytjgngmmepheioaa.G


namespace Go.Proofs.Ytjgngmmepheioaa.G
open Go.RowKit

/-- 'append(v, b...)' where v is an empty list of the function's own: a copy. -/
theorem wpList_copyI (w : World) {ops : Array Oper} {rest : List Oper} {o : Oper} {a : Act} {Q : Exit → Act → World → Prop} (hgd : o.guard = none) (s x : Operand)
    (ho : o.op = .call { callee := .builtin .append, args := #[s, x], argTypes := #[22, 22] }) (base : Nat) (hbase : base ≤ w.heap.size) (v0 : Value) (hs : a.eval s = v0) (hv0 : w.ownsRow base 5 1 v0 0 []) (ad : Option Addr) (cap : Nat) (l : List UInt8) (hx : a.eval x = .slice ad l.length cap) (hI : InB w ad cap l) (hlen : l.length ≤ 262144)
    (h : ∀ a' cap' w', InB w' a' cap' l → Below base w w' → wpList Try.prog ops Q rest (a.put o.dst (.slice a' l.length cap')) w') : wpList Try.prog ops Q (o :: rest) a w := by
  have hm : (l.map UInt8.toNat).length = l.length := List.length_map ..
  refine wpList_copyB w hgd s x ho base hbase v0 hs hv0 ad cap (l.map UInt8.toNat) (by rw [hm]; exact hx) hI.2.1 ⟨fun n hn => ?_, ?_⟩ (by rw [hm]; exact hlen) ?_
  · obtain ⟨b, _, rfl⟩ := List.mem_map.1 hn
    exact b.toNat_lt
  · rcases hI.1 with rfl | ⟨b, off, ha, hb, hc⟩
    · exact .inl rfl
    · refine .inr ⟨b, off, ha, hb, fun i hi => ?_⟩
      rw [hm] at hi
      rw [hc i hi, List.getElem_map]
  · intro a' cap' w' ho' hB' hb'
    rw [hm] at ho' ⊢
    refine h a' cap' w' (InB.of_own (base := base) (n := l.length) (l := l) ?_) hb'
    have e : bysV (l.map UInt8.toNat) = Go.Lib.byteCells l := by
      unfold bysV Go.Lib.byteCells
      rw [List.map_map]
      rfl
    rw [← e]
    exact ho'

/-- The room with its one list of bytes, and what stands there. -/
structure LG (W0 : World) (R g g2 cap2 capN n : Nat) (w : World) (l : List UInt8) : Prop where
  bel : Below W0.heap.size W0 w
  len : l.length = n
  ge : W0.heap.size ≤ g
  hn : n ≤ 262144
  hl : ∀ i (h : i < l.length), w.cell? ⟨g, i, none⟩ = some (.int .u8 (l[i].toNat : Int))
  mks : ∀ k, k < 600 → w.cell? ⟨g, n + k, none⟩ = some (.int .u8 (markB k))
  fz : ∀ i, w.frozen? ⟨g, i, none⟩ = false
  rb : RoomBut w R 0
  c : w.cell? ⟨R, 0, none⟩ = some (.slice (some ⟨g2, 0, none⟩) 1 cap2)
  d : w.cell? ⟨g2, 0, none⟩ = some (.slice (some ⟨g, 0, none⟩) (n + 600) capN)
variable {W0 : World} {R g g2 cap2 capN n : Nat} {w w' : World} {l : List UInt8}
theorem LG.zero (h : LG W0 R g g2 cap2 capN n w l) : ∃ z, w.cell? ⟨g, 0, none⟩ = some (.int .u8 z) := by
  by_cases h0 : l.length = 0
  · have h1 := h.mks 0 (by omega)
    have := h.len
    rw [show n + 0 = 0 by omega] at h1
    exact ⟨_, h1⟩
  · exact ⟨_, h.hl 0 (by omega)⟩
theorem LG.lt (h : LG W0 R g g2 cap2 capN n w l) : g < w.heap.size := by
  obtain ⟨z, hz⟩ := h.zero
  exact World.block_lt_of_cell? _ _ hz
theorem LG.later (h : LG W0 R g g2 cap2 capN n w l) (hb : Below w.heap.size w w') : LG W0 R g g2 cap2 capN n w' l :=
  ⟨h.bel.trans (hb.mono h.bel.size), h.len, h.ge, h.hn, fun i hi => (bel_cell hb h.lt i).trans (h.hl i hi), fun k hk => (bel_cell hb h.lt _).trans (h.mks k hk), fun i => (hb.frozen (p := ⟨g, i, none⟩) h.lt).trans (h.fz i), h.rb.later hb, (bel_cell hb (World.block_lt_of_cell? _ _ h.c) _).trans h.c, (bel_cell hb (World.block_lt_of_cell? _ _ h.d) _).trans h.d⟩
theorem LG.inB (h : LG W0 R g g2 cap2 capN n w l) : InB w (some ⟨g, 0, none⟩) (n + 600) l :=
  ⟨.inr ⟨g, 0, rfl, h.lt, fun i hi => by rw [Nat.zero_add]; exact h.hl i hi⟩, fun e => (nomatch e), by have := h.len; omega⟩
theorem LG.neR (h : LG W0 R g g2 cap2 capN n w l) : R ≠ g := fun e => by
  obtain ⟨z, hz⟩ := h.zero
  have := h.c
  rw [e, hz] at this
  cases this
theorem LG.ne2 (h : LG W0 R g g2 cap2 capN n w l) : g2 ≠ g := fun e => by
  obtain ⟨z, hz⟩ := h.zero
  have := h.d
  rw [e, hz] at this
  cases this
theorem LG.set (h : LG W0 R g g2 cap2 capN n w l) (i : Nat) (hi : i < n) (x : UInt8) : LG W0 R g g2 cap2 capN n (w.setCell ⟨g, i, none⟩ (.int .u8 (x.toNat : Int))) (l.set i x) := by
  have hlen := h.len
  have o : ∀ b j, (b ≠ g ∨ j ≠ i) → (w.setCell ⟨g, i, none⟩ (.int .u8 (x.toNat : Int))).cell? ⟨b, j, none⟩ = w.cell? ⟨b, j, none⟩ := fun b j hj => World.cell?_setCell_other _ _ _ _ (fun e => by
    cases e
    rcases hj with hj | hj <;> exact hj rfl)
  refine ⟨h.bel.setCell (p := ⟨g, i, none⟩) h.ge _, by rw [List.length_set]; exact hlen, h.ge, h.hn, fun j hj => ?_, fun k hk => (o g _ (.inr (by omega))).trans (h.mks k hk), fun j => by rw [World.frozen?_setCell]; exact h.fz j, fun k hk hk0 => (o R k (.inl h.neR)).trans (h.rb k hk hk0), (o R 0 (.inl h.neR)).trans h.c, (o g2 0 (.inl h.ne2)).trans h.d⟩
  rw [List.length_set] at hj
  by_cases e : i = j
  · subst e
    rw [World.cell?_setCell_same _ _ _ (h.hl i hj), List.getElem_set_self]
  · rw [o g j (.inr (fun e2 => e e2.symm)), List.getElem_set_ne e]
    exact h.hl j hj
/-- A pack in a variable of the function's own. -/
structure PV (W0 w : World) (b : Nat) (vs : List Value) : Prop where
  ge : W0.heap.size ≤ b
  bx : Bx w b vs
  st : ∃ s, vs[0]? = some (.string s)
theorem PV.lt {b : Nat} {vs : List Value} (h : PV W0 w b vs) : b < w.heap.size := h.bx.1
theorem PV.zero {b : Nat} {vs : List Value} (h : PV W0 w b vs) : ∃ s, w.cell? ⟨b, 0, none⟩ = some (.string s) := by
  obtain ⟨s, hs⟩ := h.st
  exact ⟨s, (h.bx.2.1 0 (by have := (List.getElem?_eq_some_iff.1 hs).1; omega)).trans hs⟩
theorem PV.later {b : Nat} {vs : List Value} (h : PV W0 w b vs) (hb : Below w.heap.size w w') : PV W0 w' b vs := ⟨h.ge, ⟨Nat.lt_of_lt_of_le h.bx.1 hb.size, fun j hj => (bel_cell hb h.bx.1 j).trans (h.bx.2.1 j hj), fun j => (hb.frozen (p := ⟨b, j, none⟩) h.bx.1).trans (h.bx.2.2 j)⟩, h.st⟩
theorem PV.setO {b b' i : Nat} {vs : List Value} {v : Value} (h : PV W0 w b vs) (hne : b' ≠ b) : PV W0 (w.setCell ⟨b', i, none⟩ v) b vs := ⟨h.ge, h.bx.kept (gr_set w b' i v) (fun e => hne (Option.some.inj e).symm), h.st⟩
theorem PV.new (W0 w : World) (hs : W0.heap.size ≤ w.heap.size) (s : ByteArray) (vs : List Value) (t : TypeId) : PV W0 (w.alloc (.cells (.string s :: vs).toArray t)) w.heap.size (.string s :: vs) := ⟨hs, bx_new w (.string s :: vs).toArray t, ⟨s, rfl⟩⟩
/-- A whole pack is stored: cell by cell. -/
theorem PV.put {b : Nat} {vs : List Value} (h : PV W0 w b vs) (i : Nat) (v : Value) (hv : i = 0 → ∃ s, v = .string s) : PV W0 (w.setCell ⟨b, i, none⟩ v) b (vs.set i v) := by
  refine ⟨h.ge, h.bx.set i v, ?_⟩
  obtain ⟨s, hs⟩ := h.st
  have hl := (List.getElem?_eq_some_iff.1 hs).1
  by_cases e : i = 0
  · subst e
    obtain ⟨s2, rfl⟩ := hv rfl
    exact ⟨s2, by rw [List.getElem?_set_self hl]⟩
  · exact ⟨s, by rw [List.getElem?_set_ne e]; exact hs⟩
theorem LG.setO {b i : Nat} {vs : List Value} {v : Value} (h : LG W0 R g g2 cap2 capN n w l) (k : PV W0 w b vs) : LG W0 R g g2 cap2 capN n (w.setCell ⟨b, i, none⟩ v) l := by
  obtain ⟨s, hs⟩ := k.zero
  have h1 : g ≠ b := fun e => by
    obtain ⟨z, hz⟩ := h.zero
    rw [e, hs] at hz
    cases hz
  have h2 : R ≠ b := fun e => by
    have := h.c
    rw [e, hs] at this
    cases this
  have h3 : g2 ≠ b := fun e => by
    have := h.d
    rw [e, hs] at this
    cases this
  have o : ∀ c j, c ≠ b → (w.setCell ⟨b, i, none⟩ v).cell? ⟨c, j, none⟩ = w.cell? ⟨c, j, none⟩ := fun c j hj => World.cell?_setCell_other _ _ _ _ (fun e => by cases e; exact hj rfl)
  exact ⟨h.bel.setCell (p := ⟨b, i, none⟩) k.ge _, h.len, h.ge, h.hn, fun j hj => (o g j h1).trans (h.hl j hj), fun j hj => (o g _ h1).trans (h.mks j hj), fun j => by rw [World.frozen?_setCell]; exact h.fz j, fun j hj hj0 => (o R j h2).trans (h.rb j hj hj0), (o R 0 h2).trans h.c, (o g2 0 h3).trans h.d⟩
theorem LG.hold (h : LG W0 R g g2 cap2 capN n w l) : Calls Try.prog 10 #[.pointer (some ⟨R, 0, none⟩)] w fun e w' => e = .returned (.bool true) ∧ Below w.heap.size w w' :=
  hold_bytes R w h.rb (fun X hX => holdBytes_one R g2 g cap2 capN n X (h.later hX).c (h.later hX).d (by have := h.hn; omega) (h.later hX).mks)
/-- The room's copy of bytes: the state behind it. -/
theorem bytes_lg (W0 : World) (R : Nat) (a : Option Addr) (cap : Nat) (l : List UInt8) (W : World) (h0 : Below W0.heap.size W0 W) (h : InB W a cap l) (hl : l.length ≤ 262144) (hR : W0.heap.size ≤ R) (hr : ∀ k, k < 21 → W.cell? ⟨R, k, none⟩ = some (.slice none 0 0)) (r2 : W.frozen? ⟨R, 0, none⟩ = false) :
    Calls Try.prog 5 #[.pointer (some ⟨R, 0, none⟩), .slice a l.length cap] W fun e W' => ∃ g g2 cap2 capN : Nat, e = .returned (.slice (some ⟨g, 0, none⟩) l.length (l.length + 600)) ∧ LG W0 R g g2 cap2 capN l.length W' l ∧ (∀ b, b < W.heap.size → b ≠ R → W'.heap[b]? = W.heap[b]?) ∧ W.heap.size ≤ W'.heap.size := by
  refine (bytes_any R a cap l W h (by omega) (hr 0 (by omega)) r2).mono ?_
  rintro e W' ⟨g, g2, cap2, capN, Wm, rfl, hB, rfl, ho, hd, hg2⟩
  refine ⟨g, g2, cap2, capN, rfl, ?_, fun b hb hbR => ?_, ?_⟩
  · have hRl := World.block_lt_of_cell? _ _ (hr 0 (by omega))
    have hRl : R < W.heap.size := hRl
    have hg1 := (ho.lt g rfl).1
    have hb1 := hB.mono (B' := W0.heap.size) h0.size
    have o : ∀ c j, c ≠ R → (Wm.setCell ⟨R, 0, none⟩ (.slice (some ⟨g2, 0, none⟩) 1 cap2)).cell? ⟨c, j, none⟩ = Wm.cell? ⟨c, j, none⟩ := fun c j hj => World.cell?_setCell_other _ _ _ _ (fun e => by cases e; exact hj rfl)
    refine ⟨(h0.trans hb1).setCell (p := ⟨R, 0, none⟩) hR _, rfl, Nat.le_trans h0.size hg1, hl, fun i hi => ?_, fun k hk => ?_, fun i => ?_, fun k hk hk0 => ?_, ?_, ?_⟩
    · rw [o g i (by omega), ho.cellAt i (by omega), List.getElem?_append_left (by rw [List.length_map]; exact hi), List.getElem?_map, List.getElem?_eq_getElem hi]
      rfl
    · rw [o g _ (by omega), ho.cellAt _ (by omega), List.getElem?_append_right (by rw [List.length_map]; omega), List.length_map]
      unfold marks
      rw [List.getElem?_map, Nat.add_sub_cancel_left, List.getElem?_range hk]
      rfl
    · rw [World.frozen?_setCell]
      exact ho.frozenAt i
    · rw [World.cell?_setCell_other _ _ _ _ (fun e => hk0 (by cases e; rfl)), bel_cell hB hRl]
      exact hr k hk
    · exact World.cell?_setCell_same _ _ _ ((bel_cell hB hRl 0).trans (hr 0 (by omega)))
    · rw [o g2 0 (by omega)]
      exact hd
  · rw [Below.heap_setCell _ _ _ b (fun e => hbR e)]
    exact hB.block b hb
  · exact Nat.le_trans hB.size (gr_set Wm R 0 _).size
/-- A whole pack is stored into a variable. -/
theorem put7 {W0 : World} {R g g2 cap2 capN n b b2 : Nat} {w : World} {l : List UInt8} {vs us : List Value} (hL : LG W0 R g g2 cap2 capN n w l) (hV : PV W0 w b vs) (hvl : vs.length = 7) (hU : PV W0 w b2 us) (hne : b ≠ b2) (s : ByteArray) (c1 c2 c3 c4 c5 c6 : Value) : ∃ (o0 o1 o2 o3 o4 o5 o6 : Value) (X1 X2 X3 X4 X5 X6 X7 : World), w.cell? ⟨b, 0, none⟩ = some o0 ∧ w.frozen? ⟨b, 0, none⟩ = false ∧ w.setCell ⟨b, 0, none⟩ (.string s) = X1 ∧ X1.cell? ⟨b, 1, none⟩ = some o1 ∧ X1.frozen? ⟨b, 1, none⟩ = false ∧ X1.setCell ⟨b, 1, none⟩ c1 = X2 ∧ X2.cell? ⟨b, 2, none⟩ = some o2 ∧ X2.frozen? ⟨b, 2, none⟩ = false ∧ X2.setCell ⟨b, 2, none⟩ c2 = X3 ∧ X3.cell? ⟨b, 3, none⟩ = some o3 ∧ X3.frozen? ⟨b, 3, none⟩ = false ∧ X3.setCell ⟨b, 3, none⟩ c3 = X4 ∧ X4.cell? ⟨b, 4, none⟩ = some o4 ∧ X4.frozen? ⟨b, 4, none⟩ = false ∧ X4.setCell ⟨b, 4, none⟩ c4 = X5 ∧ X5.cell? ⟨b, 5, none⟩ = some o5 ∧ X5.frozen? ⟨b, 5, none⟩ = false ∧ X5.setCell ⟨b, 5, none⟩ c5 = X6 ∧ X6.cell? ⟨b, 6, none⟩ = some o6 ∧ X6.frozen? ⟨b, 6, none⟩ = false ∧ X6.setCell ⟨b, 6, none⟩ c6 = X7 ∧ LG W0 R g g2 cap2 capN n X7 l ∧ PV W0 X7 b [.string s, c1, c2, c3, c4, c5, c6] ∧ PV W0 X7 b2 us ∧ X7.heap.size = w.heap.size ∧ ∀ (lo : Nat) (pk : Pk) (cs : List Value), b < lo → PkE w (fun x => lo ≤ x) pk cs → PkE X7 (fun x => lo ≤ x) pk cs := by
  obtain ⟨o0, o1, o2, o3, o4, o5, o6, rfl⟩ : ∃ o0 o1 o2 o3 o4 o5 o6 : Value, vs = [o0, o1, o2, o3, o4, o5, o6] := by
    match vs, hvl with
    | [o0, o1, o2, o3, o4, o5, o6], _ => exact ⟨o0, o1, o2, o3, o4, o5, o6, rfl⟩
  have hV0 := hV
  have hL0 := hL
  have hU0 := hU
  have hs0 : w.heap.size = w.heap.size := rfl
  have hP0 : ∀ (lo : Nat) (pk : Pk) (cs : List Value), b < lo → PkE w (fun x => lo ≤ x) pk cs → PkE w (fun x => lo ≤ x) pk cs := fun _ _ _ _ h => h
  clear hV hL hU
  obtain ⟨X1, hx0⟩ : ∃ X, w.setCell ⟨b, 0, none⟩ (.string s) = X := ⟨_, rfl⟩
  have hV1 : PV W0 X1 b [.string s, o1, o2, o3, o4, o5, o6] := by rw [← hx0]; exact hV0.put 0 (.string s) (fun _ => ⟨_, rfl⟩)
  have hL1 : LG W0 R g g2 cap2 capN n X1 l := by rw [← hx0]; exact hL0.setO hV0
  have hU1 : PV W0 X1 b2 us := by rw [← hx0]; exact hU0.setO hne
  have hs1 : X1.heap.size = w.heap.size := by rw [← hx0]; exact (World.size_setCell _ _ _).trans hs0
  have hP1 : ∀ (lo : Nat) (pk : Pk) (cs : List Value), b < lo → PkE w (fun x => lo ≤ x) pk cs → PkE X1 (fun x => lo ≤ x) pk cs := fun lo pk cs hb h => by rw [← hx0]; exact pke_gr (hP0 lo pk cs hb h) (gr_set _ b 0 _) hb
  obtain ⟨X2, hx1⟩ : ∃ X, X1.setCell ⟨b, 1, none⟩ c1 = X := ⟨_, rfl⟩
  have hV2 : PV W0 X2 b [.string s, c1, o2, o3, o4, o5, o6] := by rw [← hx1]; exact hV1.put 1 c1 (fun h => absurd h (by decide))
  have hL2 : LG W0 R g g2 cap2 capN n X2 l := by rw [← hx1]; exact hL1.setO hV1
  have hU2 : PV W0 X2 b2 us := by rw [← hx1]; exact hU1.setO hne
  have hs2 : X2.heap.size = w.heap.size := by rw [← hx1]; exact (World.size_setCell _ _ _).trans hs1
  have hP2 : ∀ (lo : Nat) (pk : Pk) (cs : List Value), b < lo → PkE w (fun x => lo ≤ x) pk cs → PkE X2 (fun x => lo ≤ x) pk cs := fun lo pk cs hb h => by rw [← hx1]; exact pke_gr (hP1 lo pk cs hb h) (gr_set _ b 1 _) hb
  obtain ⟨X3, hx2⟩ : ∃ X, X2.setCell ⟨b, 2, none⟩ c2 = X := ⟨_, rfl⟩
  have hV3 : PV W0 X3 b [.string s, c1, c2, o3, o4, o5, o6] := by rw [← hx2]; exact hV2.put 2 c2 (fun h => absurd h (by decide))
  have hL3 : LG W0 R g g2 cap2 capN n X3 l := by rw [← hx2]; exact hL2.setO hV2
  have hU3 : PV W0 X3 b2 us := by rw [← hx2]; exact hU2.setO hne
  have hs3 : X3.heap.size = w.heap.size := by rw [← hx2]; exact (World.size_setCell _ _ _).trans hs2
  have hP3 : ∀ (lo : Nat) (pk : Pk) (cs : List Value), b < lo → PkE w (fun x => lo ≤ x) pk cs → PkE X3 (fun x => lo ≤ x) pk cs := fun lo pk cs hb h => by rw [← hx2]; exact pke_gr (hP2 lo pk cs hb h) (gr_set _ b 2 _) hb
  obtain ⟨X4, hx3⟩ : ∃ X, X3.setCell ⟨b, 3, none⟩ c3 = X := ⟨_, rfl⟩
  have hV4 : PV W0 X4 b [.string s, c1, c2, c3, o4, o5, o6] := by rw [← hx3]; exact hV3.put 3 c3 (fun h => absurd h (by decide))
  have hL4 : LG W0 R g g2 cap2 capN n X4 l := by rw [← hx3]; exact hL3.setO hV3
  have hU4 : PV W0 X4 b2 us := by rw [← hx3]; exact hU3.setO hne
  have hs4 : X4.heap.size = w.heap.size := by rw [← hx3]; exact (World.size_setCell _ _ _).trans hs3
  have hP4 : ∀ (lo : Nat) (pk : Pk) (cs : List Value), b < lo → PkE w (fun x => lo ≤ x) pk cs → PkE X4 (fun x => lo ≤ x) pk cs := fun lo pk cs hb h => by rw [← hx3]; exact pke_gr (hP3 lo pk cs hb h) (gr_set _ b 3 _) hb
  obtain ⟨X5, hx4⟩ : ∃ X, X4.setCell ⟨b, 4, none⟩ c4 = X := ⟨_, rfl⟩
  have hV5 : PV W0 X5 b [.string s, c1, c2, c3, c4, o5, o6] := by rw [← hx4]; exact hV4.put 4 c4 (fun h => absurd h (by decide))
  have hL5 : LG W0 R g g2 cap2 capN n X5 l := by rw [← hx4]; exact hL4.setO hV4
  have hU5 : PV W0 X5 b2 us := by rw [← hx4]; exact hU4.setO hne
  have hs5 : X5.heap.size = w.heap.size := by rw [← hx4]; exact (World.size_setCell _ _ _).trans hs4
  have hP5 : ∀ (lo : Nat) (pk : Pk) (cs : List Value), b < lo → PkE w (fun x => lo ≤ x) pk cs → PkE X5 (fun x => lo ≤ x) pk cs := fun lo pk cs hb h => by rw [← hx4]; exact pke_gr (hP4 lo pk cs hb h) (gr_set _ b 4 _) hb
  obtain ⟨X6, hx5⟩ : ∃ X, X5.setCell ⟨b, 5, none⟩ c5 = X := ⟨_, rfl⟩
  have hV6 : PV W0 X6 b [.string s, c1, c2, c3, c4, c5, o6] := by rw [← hx5]; exact hV5.put 5 c5 (fun h => absurd h (by decide))
  have hL6 : LG W0 R g g2 cap2 capN n X6 l := by rw [← hx5]; exact hL5.setO hV5
  have hU6 : PV W0 X6 b2 us := by rw [← hx5]; exact hU5.setO hne
  have hs6 : X6.heap.size = w.heap.size := by rw [← hx5]; exact (World.size_setCell _ _ _).trans hs5
  have hP6 : ∀ (lo : Nat) (pk : Pk) (cs : List Value), b < lo → PkE w (fun x => lo ≤ x) pk cs → PkE X6 (fun x => lo ≤ x) pk cs := fun lo pk cs hb h => by rw [← hx5]; exact pke_gr (hP5 lo pk cs hb h) (gr_set _ b 5 _) hb
  obtain ⟨X7, hx6⟩ : ∃ X, X6.setCell ⟨b, 6, none⟩ c6 = X := ⟨_, rfl⟩
  have hV7 : PV W0 X7 b [.string s, c1, c2, c3, c4, c5, c6] := by rw [← hx6]; exact hV6.put 6 c6 (fun h => absurd h (by decide))
  have hL7 : LG W0 R g g2 cap2 capN n X7 l := by rw [← hx6]; exact hL6.setO hV6
  have hU7 : PV W0 X7 b2 us := by rw [← hx6]; exact hU6.setO hne
  have hs7 : X7.heap.size = w.heap.size := by rw [← hx6]; exact (World.size_setCell _ _ _).trans hs6
  have hP7 : ∀ (lo : Nat) (pk : Pk) (cs : List Value), b < lo → PkE w (fun x => lo ≤ x) pk cs → PkE X7 (fun x => lo ≤ x) pk cs := fun lo pk cs hb h => by rw [← hx6]; exact pke_gr (hP6 lo pk cs hb h) (gr_set _ b 6 _) hb
  exact ⟨o0, o1, o2, o3, o4, o5, o6, X1, X2, X3, X4, X5, X6, X7, hV0.bx.2.1 0 (show 0 < 7 by decide), hV0.bx.2.2 0, hx0, hV1.bx.2.1 1 (show 1 < 7 by decide), hV1.bx.2.2 1, hx1, hV2.bx.2.1 2 (show 2 < 7 by decide), hV2.bx.2.2 2, hx2, hV3.bx.2.1 3 (show 3 < 7 by decide), hV3.bx.2.2 3, hx3, hV4.bx.2.1 4 (show 4 < 7 by decide), hV4.bx.2.2 4, hx4, hV5.bx.2.1 5 (show 5 < 7 by decide), hV5.bx.2.2 5, hx5, hV6.bx.2.1 6 (show 6 < 7 by decide), hV6.bx.2.2 6, hx6, hL7, hV7, hU7, hs7, hP7⟩

end Go.Proofs.Ytjgngmmepheioaa.G
