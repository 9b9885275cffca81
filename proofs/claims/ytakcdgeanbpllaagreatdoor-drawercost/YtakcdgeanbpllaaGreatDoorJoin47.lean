import Derived.Test.YtakcdgeanbpllaaGreatDoorJoin46
import Derived.Test.YtakcdgeanbpllaaGreatDoorDlC
import Derived.Deep.SlicePairs
import Derived.Test.YtakcdgeanbpllaaGreatDoorJoin45
/- PUT, FOLD AND RESTART KEEP WHAT WAS TOLD (P19.11, P19.12). No program. -/
namespace Go.Proofs.YtakcdgeanbpllaaGreatDoor.DJ

theorem Base.shp {sum : Nat} {s : List Nat} {R : List Rec} {g : Nat} {fs : List Fl} (h : Base sum s R g fs) (L : Option Rec) (F : Option (List Nat)) : Shp sum s R L F g fs := by
  rw [h.1]; exact .base
theorem Base.fine {sum : Nat} {s : List Nat} {R : List Rec} {g : Nat} {fs : List Fl} (h : Base sum s R g fs) : Fine sum s R none none g :=
  ⟨h.2.1, fun _ e => (nomatch e), fun _ e => (nomatch e), h.2.2.1, h.2.2.2⟩

/-- PUT: done, with the record behind the others; or with the record in flight. -/
theorem put_kept {sum : Nat} {s : List Nat} {R : List Rec} {g : Nat} {d : Dk} {r : Rec} (h : Base sum s R g d.fs) (hr : r.2.length ≤ 1048576) :
    Out (Calm d ∧ (enc sum s R).length + (r.2.length + 18) ≤ 2097152) (putD d sum g R.length r) (Base sum s (R ++ [r]) g) (Shp sum s R (some r) none g) := by
  obtain ⟨hd, hgood, h1, h9⟩ := h
  have hpl := piece_len (R.length + 1) sum r.1 r.2
  have hget : get d.fs (Nm g) = some (main sum s R g) := by rw [hd]; simp [get, main]
  have hlay : ∀ p, lay d.fs (Nm g) p = [⟨Nm g, enc sum s R ++ p, (enc sum s R).length⟩] := by
    intro p
    unfold lay
    rw [hget]
    simp only [hd]
    exact upd_one (main sum s R g) _
  unfold putD
  refine Out.weak (out_lays (named_Nm g) (by rw [hd]; exact .base) ?_ ?_ ?_) (fun hc => ⟨hc.1, ?_, ?_⟩)
  · intro n
    rw [hlay]
    have := Shp.late (sum := sum) (s := s) (R := R) (L := some r) (F := none) (g := g) (n := min n (r.2.length + 18)) (k := (enc sum s R).length) rfl (by omega) (Nat.le_refl _) (by omega)
    rw [tail_eq, take_min hpl] at this
    exact this
  · rw [hlay]; exact get_one ⟨Nm g, _, _⟩
  · rw [hlay]
    refine ⟨?_, ⟨hgood.sum, hgood.s, ?_⟩, h1, h9⟩
    · rw [main_eq, enc_snoc]
      exact upd_one ⟨Nm g, enc sum s R ++ piece (R.length + 1) sum r.1 r.2, (enc sum s R).length⟩ syncF
    · intro x hx
      rcases List.mem_append.mp hx with h | h
      · exact hgood.R x h
      · rw [List.mem_singleton.mp h]; exact hr
  · unfold size; rw [hget, hpl]; exact hc.2
  · rw [hd]; exact (by decide : 1 < 40)

/-- FOLD: done, with the new summary alone; or with the summary in flight. -/
theorem fold_kept {sum : Nat} {s t : List Nat} {R : List Rec} {g : Nat} {d : Dk} (h : Base sum s R g d.fs) (ht : t.length ≤ 1048576) (hg : g + 1 ≤ 99999999) :
    Out (Calm d) (foldD d sum g t) (Base sum t [] (g + 1)) (Shp sum s R none (some t) g) := by
  obtain ⟨hd, hgood, h1, h9⟩ := h
  have hpl := piece_len 0 sum 0 t
  have hne : Nm g ≠ Nm (g + 1) := fun e => absurd (Nm_inj h9 hg e) (by omega)
  have hget : get d.fs (Nm (g + 1)) = none := by rw [hd]; simp [get, main, hne]
  have hlay : ∀ p, Two (main sum s R g) ⟨Nm (g + 1), p, 0⟩ (lay d.fs (Nm (g + 1)) p) := by
    intro p
    unfold lay
    rw [hget]
    simp only [hd, ins]
    cases hlt : ltB (main sum s R g).nm (Nm (g + 1))
    · right; simp [List.takeWhile, List.dropWhile, hlt]
    · left; simp [List.takeWhile, List.dropWhile, hlt]
  have hQ : ∀ n k fs, k ≤ n → n ≤ t.length + 18 → Two (main sum s R g) (torn sum t (g + 1) n k) fs → Shp sum s R none (some t) g fs := by
    intro n k fs hk hn h
    rcases h with rfl | rfl
    · exact .foldA rfl hn hk
    · exact .foldB rfl hn hk
  have hall := hlay (piece 0 sum 0 t)
  unfold foldD
  refine Out.then (P := Two (main sum s R g) (main sum t [] (g + 1))) (Out.weak (out_lays (named_Nm (g + 1)) (by rw [hd]; exact .base) ?_ hall.getB ?_) (fun hc => ⟨hc, ?_, ?_⟩)) ?_
  · intro n
    have := hlay ((piece 0 sum 0 t).take n)
    rw [← take_min (n := n) hpl] at this ⊢
    exact hQ (min n (t.length + 18)) 0 _ (by omega) (by omega) this
  · have := hall.updB hne syncF
    rw [main_eq sum t, enc_nil]
    exact this
  · unfold size; rw [hget, hpl]; simp only [Option.map_none, Option.getD_none]; omega
  · rw [hd]; exact (by decide : 1 < 40)
  · intro c hc
    refine out_changes (named_Nm g) hc.getA ⟨hc.delA hne, ⟨hgood.sum, ht, by simp⟩, by omega, hg⟩ ?_
    refine hQ (t.length + 18) (t.length + 18) _ (Nat.le_refl _) (Nat.le_refl _) ?_
    rw [torn_eq, take_piece _ _ _ _ _ (Nat.le_refl _)]
    rw [main_eq sum t, enc_nil, hpl] at hc
    exact hc

theorem cut_main (k : Int) (sum : Nat) (s : List Nat) (R : List Rec) (g : Nat) : cutF k (main sum s R g) = main sum s R g := by
  rw [main_eq]; simp [cutF]
theorem cut_torn (k : Int) (sum : Nat) (s : List Nat) (g n m : Nat) (hn : n ≤ s.length + 18) (hm : m ≤ n) : ∃ n', n' ≤ n ∧ cutF k (torn sum s g n m) = torn sum s g n' n' := by
  have hl : ((piece 0 sum 0 s).take n).length = n := by rw [List.length_take, piece_len]; omega
  refine ⟨m + min k.toNat (n - m), by omega, ?_⟩
  rw [torn_eq, torn_eq]
  simp only [cutF, hl, List.take_take]
  rw [Nat.min_eq_left (by omega)]
theorem cut_tail (k : Int) (sum : Nat) (s : List Nat) (R : List Rec) (r : Rec) (g n m : Nat) (hn : n ≤ r.2.length + 18) (h1 : (enc sum s R).length ≤ m) (h2 : m ≤ (enc sum s R).length + n) :
    ∃ n', n' ≤ n ∧ cutF k (tail sum s R r g n m) = tail sum s R r g n' ((enc sum s R).length + n') := by
  have hl : (enc sum s R ++ (piece (R.length + 1) sum r.1 r.2).take n).length = (enc sum s R).length + n := by rw [List.length_append, List.length_take, piece_len]; omega
  refine ⟨m + min k.toNat ((enc sum s R).length + n - m) - (enc sum s R).length, by omega, ?_⟩
  rw [tail_eq, tail_eq]
  simp only [cutF, hl]
  rw [List.take_append, List.take_of_length_le (l := enc sum s R) (by omega), List.take_take, Nat.min_eq_left (a := m + min k.toNat ((enc sum s R).length + n - m) - (enc sum s R).length) (by omega)]
  congr 1
  omega
/-- RESTART, with any bytes that survive. -/
theorem cuts_kept {sum : Nat} {s : List Nat} {R : List Rec} {L : Option Rec} {F : Option (List Nat)} {g : Nat} {fs : List Fl} (h : Shp sum s R L F g fs) (keep : List Int) (i : Nat) : Shp sum s R L F g (cuts keep i fs) := by
  cases h with
  | base => simp only [cuts, cut_main]; exact .base
  | @late r n k hL hn hk1 hk2 =>
    obtain ⟨n', hn', e⟩ := cut_tail (keep.getD (i % keep.length) 0) sum s R r g n k hn hk1 hk2
    simp only [cuts, e]
    exact .late hL (by omega) (by omega) (by omega)
  | @foldA t n k hF hn hk =>
    obtain ⟨n', hn', e⟩ := cut_torn (keep.getD ((i + 1) % keep.length) 0) sum t (g + 1) n k hn hk
    simp only [cuts, cut_main, e]
    exact .foldA hF (by omega) (by omega)
  | @foldB t n k hF hn hk =>
    obtain ⟨n', hn', e⟩ := cut_torn (keep.getD (i % keep.length) 0) sum t (g + 1) n k hn hk
    simp only [cuts, cut_main, e]
    exact .foldB hF (by omega) (by omega)
  | none h1 h2 h3 => exact .none h1 h2 h3
  | @fresh n k h1 h2 h3 hn hk =>
    obtain ⟨n', hn', e⟩ := cut_torn (keep.getD (i % keep.length) 0) sum [] 1 n k (by simpa using hn) hk
    simp only [cuts, e]
    exact .fresh h1 h2 h3 (by omega) (by omega)
theorem restart_kept {sum : Nat} {s : List Nat} {R : List Rec} {L : Option Rec} {F : Option (List Nat)} {g : Nat} {d : Dk} (h : Shp sum s R L F g d.fs) (keep : List Int) : Shp sum s R L F g (restart d keep).fs := cuts_kept h keep 0
end Go.Proofs.YtakcdgeanbpllaaGreatDoor.DJ


/- CUT ANYWHERE, OR WITH A BYTE CHANGED: THE RECORDS AHEAD (P19.5 TO P19.7). No program. -/
namespace Go.Proofs.YtakcdgeanbpllaaGreatDoor.DJ

theorem encR_append (sum k : Nat) (A B : List Rec) : encR sum k (A ++ B) = encR sum k A ++ encR sum (k + A.length) B := by
  induction A generalizing k with
  | nil => simp [encR]
  | cons a A ih =>
    simp only [List.cons_append, encR, ih, List.length_cons, List.append_assoc]
    rw [show k + 1 + A.length = k + (A.length + 1) by omega]
theorem enc_at (sum : Nat) (s : List Nat) {R : List Rec} {n : Nat} (h : n < R.length) : enc sum s R = enc sum s (R.take n) ++ (piece (n + 1) sum R[n].1 R[n].2 ++ encR sum (n + 2) (R.drop (n + 1))) := by
  conv => lhs; rw [← List.take_append_drop n R, List.drop_eq_getElem_cons h]
  unfold enc
  rw [encR_append, List.length_take, Nat.min_eq_left (Nat.le_of_lt h), List.append_assoc, show 1 + n = n + 1 by omega]
  rfl
theorem take_mid {A P B : List Nat} {m : Nat} (h1 : A.length ≤ m) (h2 : m ≤ A.length + P.length) : (A ++ (P ++ B)).take m = A ++ P.take (m - A.length) := by
  rw [List.take_append, List.take_of_length_le h1, List.take_append_of_le_length (by omega)]
theorem set_mid {A P B : List Nat} {m y : Nat} (h1 : A.length ≤ m) (h2 : m < A.length + P.length) : (A ++ (P ++ B)).set m y = A ++ (P.set (m - A.length) y ++ B) := by
  rw [List.set_append_right _ _ h1, List.set_append_left _ _ (by omega)]
theorem set_parts {P : List Nat} {i y : Nat} (h : i < P.length) : P = P.take i ++ P[i] :: P.drop (i + 1) ∧ P.set i y = P.take i ++ y :: P.drop (i + 1) := by
  refine ⟨?_, List.set_eq_take_append_cons_drop.trans (if_pos h)⟩
  rw [← List.drop_eq_getElem_cons h, List.take_append_drop]

/-- Open's answer. -/
def Gives (d : Dk) (sum : Nat) (s : List Nat) (R : List Rec) : Prop := (openD d sum).1 = 0 ∧ (openD d sum).2.1 = some (1, s, R) ∧ Calm (openD d sum).2.2 ∧ Base sum s R 1 (openD d sum).2.2.fs
theorem gives_one {d : Dk} {sum k : Nat} {dat s t : List Nat} {R : List Rec} (hc : Calm d) (hd : d.fs = [⟨Nm 1, dat, k⟩]) (hk : k ≤ dat.length) (hf : dat = enc sum s R ++ t) (hg : Good sum s R)
    (ht : ∀ kd bd, whole t (R.length + 1) ≠ some (sum, kd, bd)) : Gives d sum s R := by
  have g1 : genOf (⟨Nm 1, dat, k⟩ : Fl).nm = 1 := gen_Nm 1 (by decide)
  have hb : best d.fs = some ⟨Nm 1, dat, k⟩ := by
    rw [hd]
    refine best_one (by rw [g1]; decide) ?_
    show (whole dat 0).isSome
    rw [hf, enc_whole hg t]; rfl
  have hl : (enc sum s R).length ≤ dat.length := by rw [hf, List.length_append]; omega
  have hm := mend_one (d := d) (f := ⟨Nm 1, dat, k⟩) (n := (enc sum s R).length) (Q := fun _ => True) hd (named_Nm 1) hl hk trivial (fun _ => trivial)
  obtain ⟨h, h'⟩ := open_some hc.1 hb hf hg ht hm
  obtain ⟨h0, h1⟩ := h' hc
  rcases h with ⟨a, b, e⟩ | ⟨a, -⟩
  · refine ⟨h0, by rw [b, g1], h1, ?_, hg, by decide, by decide⟩
    rw [e, main_eq, hf, List.take_left' rfl]
  · omega
theorem gives_torn {d : Dk} {sum k : Nat} {dat : List Nat} (hs : sum < 4294967296) (hc : Calm d) (hd : d.fs = [⟨Nm 1, dat, k⟩]) (hw : whole dat 0 = none) : Gives d sum [] [] := by
  have g1 : genOf (⟨Nm 1, dat, k⟩ : Fl).nm = 1 := gen_Nm 1 (by decide)
  have hm : Out (Calm d) (andThen (removes (others d.fs 0) d) fun d1 => lays d1 (Nm 1) (piece 0 sum 0 [])) (Base sum [] [] 1) (fun _ => True) := by
    have ho : others d.fs 0 = [Nm 1] := by rw [hd]; simp [others, g1]
    rw [ho]
    refine Out.then (P := fun fs => fs = []) ?_ (fun c hc => (lays_begin (s := []) (R := []) (L := none) (F := none) (g := 1) hs rfl rfl rfl c hc).mono (fun _ h => h) (fun _ _ => trivial))
    refine Out.then (P := fun fs => fs = []) ?_ (fun c2 h2 => Out.done h2)
    refine out_changes (named_Nm 1) (by rw [hd]; exact get_one ⟨Nm 1, dat, k⟩) ?_ trivial
    rw [hd]
    simp [del]
  obtain ⟨h, h'⟩ := open_none hc.1 (by rw [hd]; exact best_torn hw) hm
  obtain ⟨h0, h1⟩ := h' hc
  rcases h with ⟨a, b, e⟩ | ⟨a, -⟩
  · exact ⟨h0, b, h1, e⟩
  · omega

/-- The empty disk. -/
theorem gives_new {d : Dk} {sum : Nat} (hs : sum < 4294967296) (hc : Calm d) (hd : d.fs = []) : Gives d sum [] [] := by
  obtain ⟨h, h'⟩ := open_kept (sum := sum) (s := []) (R := []) (L := none) (F := none) (g := 1) (d := d) ⟨⟨hs, by simp, by simp⟩, fun _ e => (nomatch e), fun _ e => (nomatch e), by decide, by decide⟩ (by rw [hd]; exact .none rfl rfl rfl)
  obtain ⟨h0, h1⟩ := h' hc
  rcases h with ⟨a, g', s', R', b, m, hg, hB⟩ | ⟨a, -⟩
  · rcases m with ⟨rfl, rfl | ⟨r, e, -⟩⟩ | ⟨e, -⟩
    · rcases hg with rfl | ⟨-, e⟩
      · exact ⟨h0, b, h1, hB⟩
      · cases e
    · cases e
    · cases e
  · omega

/-- Cut within the summary. -/
theorem cut_first {d : Dk} {sum at_ k : Nat} {R : List Rec} (hs : sum < 4294967296) (hc : Calm d) (h : at_ < 18) (hd : d.fs = [⟨Nm 1, (enc sum [] R).take at_, k⟩]) : Gives d sum [] [] := by
  refine gives_torn hs hc hd ?_
  have : (enc sum [] R).take at_ = (piece 0 sum 0 []).take at_ := by
    unfold enc; rw [List.take_append_of_le_length (by rw [piece_len]; simp only [List.length_nil]; omega)]
  rw [this]
  exact whole_short 0 sum 0 at_ 0 [] (by decide) (by simp only [List.length_nil]; omega)
/-- Cut within a record. -/
theorem cut_later {d : Dk} {sum at_ n : Nat} {R : List Rec} (hg : Good sum [] R) (hc : Calm d) (hn : n < R.length) (h1 : (enc sum [] (R.take n)).length ≤ at_) (h2 : at_ < (enc sum [] (R.take n)).length + (R[n].2.length + 18))
    (hd : d.fs = [⟨Nm 1, (enc sum [] R).take at_, at_⟩]) : Gives d sum [] (R.take n) := by
  have hr := hg.R _ (List.getElem_mem hn)
  have hpl := piece_len (n + 1) sum R[n].1 R[n].2
  have e : (enc sum [] R).take at_ = enc sum [] (R.take n) ++ (piece (n + 1) sum R[n].1 R[n].2).take (at_ - (enc sum [] (R.take n)).length) := by
    rw [enc_at sum [] hn]; exact take_mid h1 (by rw [hpl]; omega)
  refine gives_one hc hd ?_ e ⟨hg.sum, hg.s, fun r h => hg.R r (List.mem_of_mem_take h)⟩ ?_
  · rw [e, List.length_append, List.length_take, hpl]; omega
  · intro kd bd h
    rw [whole_short _ _ _ _ _ _ hr (by omega)] at h
    cases h
/-- A byte of the summary is changed. -/
theorem turn_first {d : Dk} {sum at_ k x y : Nat} {R : List Rec} (hs : sum < 4294967296) (hc : Calm d) (h : at_ < 18) (h9 : at_ < 9 ∨ 13 ≤ at_) (hx : (enc sum [] R)[at_]? = some x) (hy : y < 256) (hxy : x ≠ y)
    (hd : d.fs = [⟨Nm 1, (enc sum [] R).set at_ y, k⟩]) : Gives d sum [] [] := by
  refine gives_torn hs hc hd ?_
  have hpl : (piece 0 sum 0 []).length = 18 := by rw [piece_len]; rfl
  obtain ⟨p1, p2⟩ := set_parts (P := piece 0 sum 0 []) (i := at_) (y := y) (by omega)
  have hxe : (piece 0 sum 0 [])[at_]'(by omega) = x := by
    have := hx
    unfold enc at this
    rw [List.getElem?_append_left (by omega), List.getElem?_eq_getElem (by omega)] at this
    exact Option.some.inj this
  have e : (enc sum [] R).set at_ y = (piece 0 sum 0 []).take at_ ++ y :: (piece 0 sum 0 []).drop (at_ + 1) ++ encR sum 1 R := by
    unfold enc; rw [List.set_append_left _ _ (by omega), p2]
  rw [e]
  refine whole_turn (by decide) (by simp) (by decide) p1 hy (by rw [hxe]; exact hxy) ?_
  rw [List.length_take, hpl]; omega
/-- A byte of a record is changed. -/
theorem turn_later {d : Dk} {sum at_ n x y : Nat} {R : List Rec} (hg : Good sum [] R) (hby : ∀ r ∈ R, r.1 < 256 ∧ ∀ b ∈ r.2, b < 256) (hc : Calm d) (hn : n < R.length) (h1 : (enc sum [] (R.take n)).length ≤ at_) (h2 : at_ < (enc sum [] (R.take n)).length + (R[n].2.length + 18))
    (h9 : at_ < (enc sum [] (R.take n)).length + 9 ∨ (enc sum [] (R.take n)).length + 13 ≤ at_) (hx : (enc sum [] R)[at_]? = some x) (hy : y < 256) (hxy : x ≠ y) (hd : d.fs = [⟨Nm 1, (enc sum [] R).set at_ y, (enc sum [] R).length⟩]) : Gives d sum [] (R.take n) := by
  have hr := hg.R _ (List.getElem_mem hn)
  obtain ⟨hk, hb⟩ := hby _ (List.getElem_mem hn)
  have hpl := piece_len (n + 1) sum R[n].1 R[n].2
  have hsp := enc_at sum [] hn
  have hxe : (piece (n + 1) sum R[n].1 R[n].2)[at_ - (enc sum [] (R.take n)).length]'(by omega) = x := by
    rw [hsp, List.getElem?_append_right h1, List.getElem?_append_left (by omega), List.getElem?_eq_getElem (by omega)] at hx
    exact Option.some.inj hx
  have e0 : (enc sum [] R).set at_ y = enc sum [] (R.take n) ++ ((piece (n + 1) sum R[n].1 R[n].2).set (at_ - (enc sum [] (R.take n)).length) y ++ encR sum (n + 2) (R.drop (n + 1))) := by
    rw [hsp]; exact set_mid h1 (by omega)
  have hlt : at_ - (enc sum [] (R.take n)).length < (piece (n + 1) sum R[n].1 R[n].2).length := by omega
  obtain ⟨p1, p2⟩ := set_parts (P := piece (n + 1) sum R[n].1 R[n].2) (i := at_ - (enc sum [] (R.take n)).length) (y := y) hlt
  refine gives_one hc hd (by rw [List.length_set]; exact Nat.le_refl _) e0 ⟨hg.sum, hg.s, fun r h => hg.R r (List.mem_of_mem_take h)⟩ ?_
  intro kd bd h
  rw [p2, whole_turn hk hb hr p1 hy (by rw [hxe]; exact hxy) (by rw [List.length_take, hpl]; omega)] at h
  cases h
end Go.Proofs.YtakcdgeanbpllaaGreatDoor.DJ


/- may: WHAT MAY STAND IN THE JOURNAL, ASKED OF THE LAW'S WORLD. -/
namespace Go.Proofs.YtakcdgeanbpllaaGreatDoor.DJ
open Go.RowKit

theorem Byts.drewN {w : World} {a : Option Addr} {bs : List Nat} (h : Byts w a bs) (n : Nat) : Byts (w.drewN n) a bs := h.later (below_drewN (Below.refl _ _) n)
theorem RcAt.drewN {w : World} {a : Option Addr} {R : List Rec} (h : RcAt w a R) (n : Nat) : RcAt (w.drewN n) a R := h.later (below_drewN (Below.refl _ _) n)

/-- The law's world, as far as 'may' reads it. -/
structure WdM (w : World) (b : Nat) (s : List Nat) (R L : List Rec) (F : List (List Nat)) (sa ra la fa : Option Addr) (sc rc lc fc : Nat) : Prop where
  c3 : w.cell? ⟨b, 3, none⟩ = some (.slice sa s.length sc)
  c4 : w.cell? ⟨b, 4, none⟩ = some (.slice ra R.length rc)
  c5 : w.cell? ⟨b, 5, none⟩ = some (.slice la L.length lc)
  c6 : w.cell? ⟨b, 6, none⟩ = some (.slice fa F.length fc)
  bS : Byts w sa s
  bR : RcAt w ra R
  bL : RcAt w la L
  bF : F = [] ∨ ∃ t f o p c, F = [t] ∧ fa = some ⟨f, o, none⟩ ∧ w.cell? ⟨f, o, none⟩ = some (.slice p t.length c) ∧ Byts w p t
  lR : R.length ≤ 1000000000

set_option maxRecDepth 4000 in
set_option maxHeartbeats 1000000 in
theorem may_same {w : World} {b : Nat} {s : List Nat} {R L : List Rec} {F : List (List Nat)} {sa ra la fa : Option Addr} {sc rc lc fc : Nat} (h : WdM w b s R L F sa ra la fa sc rc lc fc) (s2 r2 : Option Addr) (k1 k2 : Nat) (hs : Byts w s2 s) (hr : RcAt w r2 R) :
    Calls Tryz.prog 27 #[.pointer (some ⟨b, 0, none⟩), .slice s2 s.length k1, .slice r2 R.length k2] w fun e w' => e = .returned (.bool true) ∧ ∃ m, w' = w.drewN m := by
  obtain ⟨c3, c4, c5, c6, bs, rR, rL, fF, lR⟩ := h
  have h1 := sameBytes_any hs bs k1 sc
  have h2 := sameRecords_any R R (by omega) r2 ra k2 rc w hr rR
  rw [decide_eq_true rfl] at h1 h2
  clear hs bs hr rR rL fF
  go_enter Tryz.func27, Tryz.ntmps27
  go_wp2_with (first | (go_at_call 25; refine h1.mono ?_; rintro e w9 ⟨rfl, hw9⟩; subst w9; clear h1) | (go_at_call 36; refine h2.mono ?_; rintro e w9 ⟨rfl, m1, hm1⟩; subst hm1; clear h2))
  go_ret
  exact ⟨rfl, m1, rfl⟩

set_option maxRecDepth 4000 in
set_option maxHeartbeats 1000000 in
theorem may_fold {w : World} {b : Nat} {s t : List Nat} {R : List Rec} {sa ra la fa : Option Addr} {sc rc lc fc : Nat} (h : WdM w b s R [] [t] sa ra la fa sc rc lc fc) (s2 r2 : Option Addr) (k1 k2 : Nat) (hs : Byts w s2 t) (hr : RcAt w r2 []) :
    Calls Tryz.prog 27 #[.pointer (some ⟨b, 0, none⟩), .slice s2 t.length k1, .slice r2 0 k2] w fun e w' => e = .returned (.bool true) ∧ ∃ m, w' = w.drewN m := by
  obtain ⟨c3, c4, c5, c6, bs, rR, rL, fF, lR⟩ := h
  obtain ⟨t', f, o, p, c, e, rfl, cf, bt⟩ := fF.resolve_left (by simp)
  obtain rfl : t = t' := by injection e
  clear e fF
  have h1 := sameBytes_any hs bs k1 sc
  have h2 := sameRecords_any [] R (by simp) r2 ra k2 rc w hr rR
  have h3 := fun n => sameBytes_any (Byts.drewN hs n) (Byts.drewN bt n) k1 c
  rw [decide_eq_true rfl] at h3
  simp only [List.length_nil, List.length_cons, Nat.zero_add] at c5 c6 h2
  generalize hd1 : decide (t = s) = d1 at *
  generalize hd2 : decide ([] = R) = d2 at *
  clear hs bs hr rR rL bt hd1 hd2
  cases d1 with
  | false =>
    clear h2
    have tok : True := trivial
    go_enter Tryz.func27, Tryz.ntmps27
    go_wp2_with (first | (go_at_call 25; have _u := tok; clear tok; refine h1.mono ?_; rintro e w9 ⟨rfl, hw9⟩; subst w9; clear h1) | (go_at_call 25; refine (h3 0).mono ?_; rintro e w9 ⟨rfl, hw9⟩; subst w9))
    go_ret
    exact ⟨rfl, 0, rfl⟩
  | true =>
    cases d2 with
    | true =>
      go_enter Tryz.func27, Tryz.ntmps27
      go_wp2_with (first | (go_at_call 25; refine h1.mono ?_; rintro e w9 ⟨rfl, hw9⟩; subst w9; clear h1) | (go_at_call 36; refine h2.mono ?_; rintro e w9 ⟨rfl, m1, hm1⟩; subst hm1; clear h2))
      go_ret
      exact ⟨rfl, m1, rfl⟩
    | false =>
      go_enter Tryz.func27, Tryz.ntmps27
      go_wp2_with (first | (go_at_call 25; refine h1.mono ?_; rintro e w9 ⟨rfl, hw9⟩; subst w9; clear h1) | (go_at_call 36; refine h2.mono ?_; rintro e w9 ⟨rfl, m1, hm1⟩; subst hm1; clear h2))
      go_quiet (fail)
      go_wp2_with (go_at_call 25; refine (h3 _).mono ?_; rintro e w9 ⟨rfl, hw9⟩; subst w9)
      go_ret
      exact ⟨rfl, _, rfl⟩
theorem RcAt.fore {w : World} {a : Option Addr} {R S : List Rec} (h : RcAt w a (R ++ S)) : RcAt w a R := by
  refine ⟨fun r hr => h.1 r (List.mem_append_left _ hr), ?_⟩
  rcases h.2 with e | ⟨b, off, ha, hlt, hc⟩
  · exact .inl (List.append_eq_nil_iff.mp e).1
  · refine .inr ⟨b, off, ha, hlt, fun i hi => ?_⟩
    have := hc i (by rw [List.length_append]; omega)
    rwa [List.getElem_append_left hi] at this
theorem RcAt.last {w : World} {b off : Nat} {R : List Rec} {r : Rec} (h : RcAt w (some ⟨b, off, none⟩) (R ++ [r])) : RcAt w (some ⟨b, off + R.length * 2, none⟩) [r] := by
  refine ⟨fun x hx => h.1 x (List.mem_append_right _ hx), ?_⟩
  rcases h.2 with e | ⟨b', off', ha, hlt, hc⟩
  · simp at e
  · injection ha with ha
    injection ha with h1 h2 _
    subst h1 h2
    refine .inr ⟨b, off + R.length * 2, rfl, hlt, fun i hi => ?_⟩
    obtain rfl : i = 0 := by simp at hi; omega
    have := hc R.length (by rw [List.length_append]; simp)
    simpa using this
end Go.Proofs.YtakcdgeanbpllaaGreatDoor.DJ


/- may, with a record in flight. -/
namespace Go.Proofs.YtakcdgeanbpllaaGreatDoor.DJ
open Go.RowKit

set_option maxRecDepth 4000 in
set_option maxHeartbeats 400000 in
theorem may_late {w : World} {b : Nat} {s : List Nat} {R : List Rec} {r : Rec} {F : List (List Nat)} {sa ra la fa : Option Addr} {sc rc lc fc : Nat} (h : WdM w b s R [r] F sa ra la fa sc rc lc fc) (s2 r2 : Option Addr) (k1 k2 : Nat) (hs : Byts w s2 s) (hr : RcAt w r2 (R ++ [r])) (hk : R.length + 1 ≤ k2) :
    Calls Tryz.prog 27 #[.pointer (some ⟨b, 0, none⟩), .slice s2 s.length k1, .slice r2 (R.length + 1) k2] w fun e w' => e = .returned (.bool true) ∧ ∃ m, w' = w.drewN m := by
  obtain ⟨c3, c4, c5, c6, bs, rR, rL, fF, lR⟩ := h
  obtain ⟨b2, o2, rfl, -, -⟩ := hr.2.resolve_left (by simp)
  have h1 := sameBytes_any hs bs k1 sc
  have h2 := sameRecords_any (R ++ [r]) R (by simp; omega) _ ra k2 rc w hr rR
  have h4 := fun n => sameRecords_any R R (by omega) _ ra k2 rc _ (RcAt.drewN hr.fore n) (RcAt.drewN rR n)
  have h5 := fun n => sameRecords_any [r] [r] (by simp) _ la (k2 - R.length) lc _ (RcAt.drewN hr.last n) (RcAt.drewN rL n)
  rw [decide_eq_true rfl] at h1 h4 h5
  rw [decide_eq_false (by intro e; have := congrArg List.length e; simp at this)] at h2
  simp only [List.length_append, List.length_cons, List.length_nil, Nat.zero_add] at c5 h2 h5
  have hk' : ((R.length : Int) + 1) ≤ (k2 : Int) := by omega
  clear hs bs hr rR rL fF
  generalize R.length = n at *
  go_enter Tryz.func27, Tryz.ntmps27
  go_wp2_with (first | (go_at_call 25; refine h1.mono ?_; rintro e w9 ⟨rfl, hw9⟩; subst w9; clear h1) | (go_at_call 36; refine h2.mono ?_; rintro e w9 ⟨rfl, m1, hm1⟩; subst hm1; clear h2))
  have q4 : ∀ k, Calls Tryz.prog 36 #[.slice (some ⟨b2, o2, none⟩) n k2, .slice ra n rc] ((w.drewN m1).drewN k) fun e w' => e = .returned (.bool true) ∧ ∃ m, w' = (w.drewN m1).drewN m := by
    intro k
    rw [World.drewN_drewN]
    refine (h4 (m1 + k)).mono ?_
    rintro e w9 ⟨rfl, m, rfl⟩
    exact ⟨rfl, k + m, by rw [World.drewN_drewN, World.drewN_drewN, Nat.add_assoc]⟩
  have q5 : ∀ k, Calls Tryz.prog 36 #[.slice (some ⟨b2, o2 + n * 2, none⟩) 1 (k2 - n), .slice la 1 lc] ((w.drewN m1).drewN k) fun e w' => e = .returned (.bool true) ∧ ∃ m, w' = (w.drewN m1).drewN m := by
    intro k
    rw [World.drewN_drewN]
    refine (h5 (m1 + k)).mono ?_
    rintro e w9 ⟨rfl, m, rfl⟩
    exact ⟨rfl, k + m, by rw [World.drewN_drewN, World.drewN_drewN, Nat.add_assoc]⟩
  clear h4 h5
  have d3 : (w.drewN m1).cell? ⟨b, 3, none⟩ = _ := c3
  have d4 : (w.drewN m1).cell? ⟨b, 4, none⟩ = _ := c4
  have d5 : (w.drewN m1).cell? ⟨b, 5, none⟩ = _ := c5
  generalize hY : w.drewN m1 = Y at *
  clear c3 c4 c5 c6
  go_quiet (first | (go_at_call 36; with_reducible exact q4 _) | (go_at_call 36; with_reducible exact q5 _))
  go_wp2
  go_ret
  refine ⟨rfl, ?_⟩
  rw [← hY, World.drewN_drewN]
  exact ⟨_, rfl⟩
end Go.Proofs.YtakcdgeanbpllaaGreatDoor.DJ


/- Fold, Len. -/
namespace Go.Proofs.YtakcdgeanbpllaaGreatDoor.DJ
open Go.RowKit

/-- What Fold answers: the error, the disk, the generation, the records behind, whether it is stuck. -/
def foldR (d : Dk) (sum g n : Nat) (stuck : Bool) (s : List Nat) : Nat × Dk × Nat × Nat × Bool :=
  if stuck then (196, d, g, n, true) else if 1048576 < s.length then (197, d, g, n, false)
  else if g = 99999999 then (194, d, g, n, false)
  else if (foldD d sum g s).1 = 0 then (0, (foldD d sum g s).2, g + 1, 0, false) else ((foldD d sum g s).1, (foldD d sum g s).2, g, n, true)

set_option maxRecDepth 4000 in
set_option maxHeartbeats 1000000 in
theorem len_any {db wb sum g n : Nat} {stuck : Bool} (w : World) (hw : DwAt w wb db sum g n stuck) : Calls Tryz.prog 28 #[.pointer (some ⟨wb, 0, none⟩)] w fun e w' => e = .returned (.int .i64 (n : Int)) ∧ w' = w := by
  obtain ⟨-, -, -, c3, -⟩ := hw.cells
  clear hw
  go_enter Tryz.func28, Tryz.ntmps28
  go_wp2
  go_ret
  exact ⟨rfl, rfl⟩

set_option maxRecDepth 4000 in
set_option maxHeartbeats 1000000 in
theorem fold_any {lo db wb sum g n : Nat} {stuck : Bool} {S : Nat → Prop} {d : Dk} (hg : g ≤ 99999999) (hsum : sum < 4294967296) (bs : List Nat) (hlen : bs.length ≤ 140737488355328) (a : Option Addr) (c : Nat) (hc : a = none → c = 0) (w : World) (hlo : lo ≤ w.heap.size) (ht : TabL lo w) (hN : Byts w a bs) (hw : DwAt w wb db sum g n stuck) (hwS : ¬ S wb) (h : DiskAt w lo S db d) :
    Calls Tryz.prog 38 #[.pointer (some ⟨wb, 0, none⟩), .slice a bs.length c] w fun e w' => e = .returned (.int .i64 ((foldR d sum g n stuck bs).1 : Nat)) ∧ ∃ S', DiskAt w' lo S' db (foldR d sum g n stuck bs).2.1 ∧ DwAt w' wb db sum (foldR d sum g n stuck bs).2.2.1 (foldR d sum g n stuck bs).2.2.2.1 (foldR d sum g n stuck bs).2.2.2.2 ∧ Dw S wb w S' w' := by
  have hSl := h.low
  have hT := takes_any a bs.length c w hw
  obtain ⟨c0, c1, c2, c3, c4⟩ := hw.cells
  cases stuck with
  | true =>
    have e : foldR d sum g n true bs = (196, d, g, n, true) := rfl
    rw [e]
    rw [if_pos rfl] at hT
    have hF : Hid (∃ S', DiskAt w lo S' db d ∧ DwAt w wb db sum g n true ∧ Dw S wb w S' w) := ⟨S, h, hw, (Dv.refl S w).dw wb⟩
    clear h hw hN e
    go_enter Tryz.func38, Tryz.ntmps38
    go_wp2_with (go_at_call 31; refine hT.mono ?_; rintro e w9 ⟨rfl, hw9⟩; subst w9)
    go_ret
    exact ⟨rfl, hF.out⟩
  | false =>
    rw [if_neg (by decide)] at hT
    by_cases hl : 1048576 < bs.length
    · have e : foldR d sum g n false bs = (197, d, g, n, false) := by unfold foldR; rw [if_neg (by decide), if_pos hl]
      rw [e]
      rw [if_pos hl] at hT
      have hF : Hid (∃ S', DiskAt w lo S' db d ∧ DwAt w wb db sum g n false ∧ Dw S wb w S' w) := ⟨S, h, hw, (Dv.refl S w).dw wb⟩
      clear h hw hN e
      go_enter Tryz.func38, Tryz.ntmps38
      go_wp2_with (go_at_call 31; refine hT.mono ?_; rintro e w9 ⟨rfl, hw9⟩; subst w9)
      go_ret
      exact ⟨rfl, hF.out⟩
    rw [if_neg hl] at hT
    by_cases hg9 : g = 99999999
    · have e : foldR d sum g n false bs = (194, d, g, n, false) := by unfold foldR; rw [if_neg (by decide), if_neg hl, if_pos hg9]
      rw [e]
      have hF : Hid (∃ S', DiskAt w lo S' db d ∧ DwAt w wb db sum g n false ∧ Dw S wb w S' w) := ⟨S, h, hw, (Dv.refl S w).dw wb⟩
      have hg' : ((g : Int) == 99999999) = true := by rw [hg9]; rfl
      clear h hw hN e hg9 hg
      go_enter Tryz.func38, Tryz.ntmps38
      go_wp2_with (go_at_call 31; refine hT.mono ?_; rintro e w9 ⟨rfl, hw9⟩; subst w9)
      go_ret
      exact ⟨rfl, hF.out⟩
    have hg' : ((g : Int) == 99999999) = false := by rw [beq_eq_false_iff_ne]; omega
    obtain ⟨P, hP⟩ : ∃ P, foldR d sum g n false bs = P := ⟨_, rfl⟩
    have hPe : P = if (foldD d sum g bs).1 = 0 then (0, (foldD d sum g bs).2, g + 1, 0, false) else ((foldD d sum g bs).1, (foldD d sum g bs).2, g, n, true) := by
      rw [← hP]; unfold foldR; rw [if_neg (by decide), if_neg hl, if_neg hg9]
    rw [hP]
    clear hP
    obtain ⟨r, hr⟩ : ∃ r, lays d (Nm (g + 1)) (piece 0 sum 0 bs) = r := ⟨_, rfl⟩
    have hfd : foldD d sum g bs = if r.1 ≠ 0 then r else remove r.2 (Nm g) := by unfold foldD andThen; rw [hr]
    replace hPe := Hid.mk hPe
    replace hfd := Hid.mk hfd
    have hB := pbytes_any 0 sum 0 (by decide) hsum (by decide) a c hc bs (by omega) w.drew (hN.later ((Below.refl _ _).drew))
    rw [show ((0 : Nat) : Int) = 0 from rfl] at hB
    have hq : ∀ X, Below w.heap.size w X → X.cell? ⟨wb, 1, none⟩ = some (.int .u32 (sum : Int)) ∧ X.cell? ⟨wb, 2, none⟩ = some (.int .i64 (g : Int)) := fun X hX =>
      ⟨(hX.cell (p := ⟨wb, 1, none⟩) hw.lt).trans c1, (hX.cell (p := ⟨wb, 2, none⟩) hw.lt).trans c2⟩
    have B1 : Below w.heap.size w w.drew := (Below.refl _ _).drew
    have hq0 := hq _ B1
    have hL := fun (X : World) (hX : Below w.heap.size w X) (ad : Option Addr) (cap : Nat) (hcap : ad = none → cap = 0) (hcl : bs.length + 18 ≤ cap) (hby : Byts X ad (piece 0 sum 0 bs)) (hap : ∀ p, ad = some p → ¬ S p.block) => dlay_any (g + 1) (by omega) (data := piece 0 sum 0 bs) (by rw [piece_len]; omega) ad cap hcap (by rw [piece_len]; exact hcl) X (Nat.le_trans hlo hX.size) (ht.next (hX.mono hlo)) hby hap (hw.later hX) hwS (h.later hX)
    rw [piece_len, show ((g + 1 : Nat) : Int) = (g : Int) + 1 by omega] at hL
    simp only [hr] at hL
    have hpb : ∀ x ∈ piece 0 sum 0 bs, x < 256 := piece_bytes (by decide) hN.1
    have hkeep : ∀ S' X Y, Below w.heap.size w X → Dv S X S' Y → Y.cell? ⟨wb, 1, none⟩ = some (.int .u32 (sum : Int)) ∧ Y.cell? ⟨wb, 2, none⟩ = some (.int .i64 (g : Int)) := fun S' X Y hX hv => by
      obtain ⟨q2, q3⟩ := hq X hX
      have hl2 := World.block_lt_of_cell? _ _ q2
      exact ⟨(hv.gr.cell hl2 hwS).trans q2, (hv.gr.cell hl2 hwS).trans q3⟩
    have hgI : (g : Int) + 1 < 4294967296 := by omega
    have hg0 : (0 : Int) ≤ (g : Int) := by omega
    have hwr : IntKind.i64.wrap ((g : Int) + 1) = (g : Int) + 1 := by rw [IntKind.wrap_i64]; omega
    replace hL := Hid.mk hL
    replace hpb := Hid.mk hpb
    replace hkeep := Hid.mk hkeep
    replace hq := Hid.mk hq
    clear hg9
    go_enter Tryz.func38, Tryz.ntmps38
    go_wp2_with (go_at_call 31; refine hT.mono ?_; rintro e w9 ⟨rfl, hw9⟩; subst w9; clear hT)
    go_region_held3 (fun X => X.cell? ⟨wb, 1, none⟩ = some (.int .u32 (sum : Int)) ∧ X.cell? ⟨wb, 2, none⟩ = some (.int .i64 (g : Int))) (with_reducible assumption) (first | (go_at_call 33; refine hB.mono ?_; rintro e w2 ⟨v2, rfl, ho2, hb2⟩; have Bb : Below w.heap.size w w2 := B1.trans (hb2.mono B1.size); have hs2 := hq.out _ Bb; obtain ⟨p2, cc2, rfl⟩ := own_lenB ho2; have ho3 := own_pos ho2; have hby2 : Hid (Byts w2 p2 (piece 0 sum 0 bs)) := ⟨byts_of_own (n := bs.length + 18) hpb.out (by rw [piece_len]; exact ho2)⟩; have hap2 : Hid (∀ p, p2 = some p → ¬ S p.block) := ⟨fun p hp hS => (by have h1 := own_block ho2 hp; have h2 := (hSl _ hS).2; have h3 := B1.size; omega)⟩; clear hB ho2) | (go_at_call 32; refine (hL.out w2 Bb p2 cc2 ho3.1 ho3.2.1 hby2.out hap2.out).mono ?_; rintro e w3 ⟨rfl, S3, h3, hv3⟩; have hs3 := hkeep.out _ _ _ Bb hv3))
    have hDW : DwAt w3 wb db sum g n false := ((hw.later Bb)).grS hv3.gr hwS
    have hDv : Dv S w S3 w3 := Dv.trans (.below Bb) hv3
    obtain ⟨d0, d1, d2, d3, d4⟩ := hDW.cells
    have f4 := frozen_of_row w3 wb 4 _ _ hDW
    have hwl3 : ∀ k, S3 k → k ≠ wb := fun k hk e => by
      subst e
      rcases hDv.sub _ hk with h' | h'
      · exact hwS h'
      · have := hw.lt; omega
    by_cases hz : r.1 = 0
    case neg =>
      have hz' : ((r.1 : Int) == 0) = false := by rw [beq_eq_false_iff_ne]; omega
      have hz2 : ((r.1 : Int) != 0) = true := by rw [bne_iff_ne]; omega
      go_wp2
      go_ret
      have hPo := hPe.out
      rw [hfd.out, if_pos hz, if_neg hz] at hPo
      subst hPo
      refine ⟨rfl, S3, h3.grS (grS_set w3 wb 4 _) (fun k hk e => hwl3 k hk e), ?_, (hDv.dw wb).set 4 _⟩
      show (w3.setCell ⟨wb, 4, none⟩ (.bool true)).heap[wb]? = _
      rw [heap_setCell_same _ _ _ _ _ _ hDW]
      rfl
    have hz' : ((r.1 : Int) == 0) = true := by rw [hz]; rfl
    have hlo3 : Below lo w w3 := hDv.below' hlo hSl
    have ht3 : TabL lo w3 := ht.next hlo3
    have hLN := fun X (hX : Below w3.heap.size w3 X) => logName_any g hg lo X (ht3.next (hX.mono (Nat.le_trans hlo hlo3.size)))
    obtain ⟨sg, hsg⟩ : ∃ sg, strB (Nm g) = sg := ⟨_, rfl⟩
    have hRm := fun X (hX : Below w3.heap.size w3 X) => remove_any (Nm_len g) (Nm_lt g) X (h3.later hX)
    simp only [hsg] at hLN hRm
    obtain ⟨r2, hr2⟩ : ∃ r2, remove r.2 (Nm g) = r2 := ⟨_, rfl⟩
    simp only [hr2] at hRm
    replace hr2 := Hid.mk hr2
    have B3 : Below w3.heap.size w3 w3.drew := (Below.refl _ _).drew
    have hLN1 := hLN _ B3
    have hq3 : ∀ X, Below w3.heap.size w3 X → X.cell? ⟨wb, 0, none⟩ = some (.pointer (some ⟨db, 0, none⟩)) ∧ X.cell? ⟨wb, 2, none⟩ = some (.int .i64 (g : Int)) := fun X hX => ⟨(hX.cell (p := ⟨wb, 0, none⟩) hDW.lt).trans d0, (hX.cell (p := ⟨wb, 2, none⟩) hDW.lt).trans d2⟩
    have hs5 := hq3 _ B3
    have hkeep3 : ∀ S' X Y, Below w3.heap.size w3 X → Dv S3 X S' Y → Y.cell? ⟨wb, 0, none⟩ = some (.pointer (some ⟨db, 0, none⟩)) ∧ Y.cell? ⟨wb, 2, none⟩ = some (.int .i64 (g : Int)) := fun S' X Y hX hv => by
      obtain ⟨q2, q3⟩ := hq3 X hX
      have hl2 := World.block_lt_of_cell? _ _ q2
      exact ⟨(hv.gr.cell hl2 (fun e => hwl3 _ e rfl)).trans q2, (hv.gr.cell hl2 (fun e => hwl3 _ e rfl)).trans q3⟩
    replace hRm := Hid.mk hRm
    replace hkeep3 := Hid.mk hkeep3
    replace hq3 := Hid.mk hq3
    clear hLN hs3 hs2 hq0 d1 d3 d4
    go_upto_region 8 with fail
    go_region_held3 (fun X => X.cell? ⟨wb, 0, none⟩ = some (.pointer (some ⟨db, 0, none⟩)) ∧ X.cell? ⟨wb, 2, none⟩ = some (.int .i64 (g : Int))) (with_reducible assumption) (first | (go_at_call 54; refine hLN1.mono ?_; rintro e w4 ⟨rfl, hb4⟩; have Bc : Below w3.heap.size w3 w4 := B3.trans (hb4.mono B3.size); have hs4 := hq3.out _ Bc; clear hLN1) | (go_at_call 62; refine (hRm.out w4 Bc).mono ?_; rintro e w5 ⟨rfl, S5, h5, hv5⟩; have hs6 := hkeep3.out _ _ _ Bc hv5))
    have hDv5 : Dv S w S5 w5 := Dv.trans hDv (Dv.trans (.below Bc) hv5)
    have hDW5 : DwAt w5 wb db sum g n false := (hDW.later Bc).grS hv5.gr (fun e => hwl3 _ e rfl)
    have hwl5 : ∀ k, S5 k → k ≠ wb := fun k hk e => by
      subst e
      rcases hDv5.sub _ hk with h' | h'
      · exact hwS h'
      · have := hw.lt; omega
    obtain ⟨y0, y1, y2, y3, y4⟩ := hDW5.cells
    have g2 := frozen_of_row w5 wb 2 _ _ hDW5
    have g3 := frozen_of_row w5 wb 3 _ _ hDW5
    have g4 := frozen_of_row w5 wb 4 _ _ hDW5
    by_cases hy : r2.1 = 0
    · have hy' : ((r2.1 : Int) != 0) = false := by rw [hy]; rfl
      go_wp2
      go_ret
      have hPo := hPe.out
      have hfd2 : foldD d sum g bs = r2 := by rw [hfd.out, if_neg (fun h9 => h9 hz), hr2.out]
      rw [hfd2, if_pos hy] at hPo
      subst hPo
      refine ⟨rfl, S5, (h5.grS (grS_set w5 wb 2 _) (fun k hk e => hwl5 k hk e)).grS (grS_set _ wb 3 _) (fun k hk e => hwl5 k hk e), ?_, ((hDv5.dw wb).set 2 _).set 3 _⟩
      show ((w5.setCell ⟨wb, 2, none⟩ (.int .i64 ((g : Int) + 1))).setCell ⟨wb, 3, none⟩ (.int .i64 0)).heap[wb]? = _
      rw [heap_setCell_same _ _ _ _ _ _ (heap_setCell_same _ _ _ _ _ _ hDW5)]
      rfl
    · have hy' : ((r2.1 : Int) != 0) = true := by rw [bne_iff_ne]; omega
      go_wp2
      go_ret
      have hPo := hPe.out
      have hfd2 : foldD d sum g bs = r2 := by rw [hfd.out, if_neg (fun h9 => h9 hz), hr2.out]
      rw [hfd2, if_neg hy] at hPo
      subst hPo
      refine ⟨rfl, S5, h5.grS (grS_set w5 wb 4 _) (fun k hk e => hwl5 k hk e), ?_, (hDv5.dw wb).set 4 _⟩
      show (w5.setCell ⟨wb, 4, none⟩ (.bool true)).heap[wb]? = _
      rw [heap_setCell_same _ _ _ _ _ _ hDW5]
      rfl
end Go.Proofs.YtakcdgeanbpllaaGreatDoor.DJ
