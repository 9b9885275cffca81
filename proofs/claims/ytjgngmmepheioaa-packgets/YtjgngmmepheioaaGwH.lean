import Derived.Test.YtjgngmmepheioaaGwL
import Derived.Deep.CutBlock
namespace Go.Proofs.Ytjgngmmepheioaa.G
open Go.RowKit

/-- Blocks between two heights. -/
def SB (lo hi b : Nat) : Prop := lo ≤ b ∧ b < hi
theorem row_keep {α : Type} {D : Elt α} {w w' : World} {S : Nat → Prop} {xs : List α} {a : Option Addr} {r : Option Nat} (h : RowR D w S xs a) (hg : w.grownBy w' r) (hr : ∀ g, r = some g → ¬ S g) : RowR D w' S xs a := h.fr hg.size (fun b hb hlt => hg.block b hlt (fun e => hr b e.symm hb))
theorem row_low {α : Type} {D : Elt α} {w w' : World} {lo hi k : Nat} {xs : List α} {a : Option Addr} (h : RowR D w (SB lo hi) xs a) (hg : w.grownBy w' (some k)) (hk : k < lo) : RowR D w' (SB lo hi) xs a := row_keep h hg (fun g e hs => by have := Option.some.inj e; have := hs.1; omega)
theorem row_high {α : Type} {D : Elt α} {w w' : World} {lo hi : Nat} {r : Option Nat} {xs : List α} {a : Option Addr} (h : RowR D w (SB lo hi) xs a) (hg : w.grownBy w' r) (hk : ∀ g, r = some g → hi ≤ g) : RowR D w' (SB lo hi) xs a := row_keep h hg (fun g e hs => by have := hk g e; have := hs.2; omega)
theorem row_up {α : Type} {D : Elt α} {w : World} {lo hi hi' : Nat} {xs : List α} {a : Option Addr} (h : RowR D w (SB lo hi) xs a) (hh : hi ≤ hi') : RowR D w (SB lo hi') xs a := h.mo (fun _ _ hb => ⟨hb.1, Nat.lt_of_lt_of_le hb.2 hh⟩)
theorem E3.other {c : Rc} {W W2 : World} {rb eb kb : Nat} {rv vs kv : List Value} {a f e : Nat} {w w' : World} {r : Option Nat} (h : E3 c W W2 rb eb kb rv vs kv a f e w) (hg : w.grownBy w' r) (hr : ∀ g, r = some g → W2.heap.size ≤ g ∧ g ≠ kb) : E3 c W W2 rb eb kb rv vs kv a f e w' := ⟨h.es.other hg (fun g e => by have := hr g e; have := h.h2; have := h.h3; have := h.h4; omega), h.kx.kept hg (fun e => (hr kb e.symm).2 rfl), h.gw.andThen hg (fun j hj => .inl (hr j hj).1), h.h1, h.h2, h.h3, h.h4⟩
theorem E3.drew {c : Rc} {W W2 : World} {rb eb kb : Nat} {rv vs kv : List Value} {a f e : Nat} {w : World} (h : E3 c W W2 rb eb kb rv vs kv a f e w) : E3 c W W2 rb eb kb rv vs kv a f e w.drew := h.call h.es.cs.drew1 ⟨rfl, rfl, rfl, Nat.le_refl _, fun _ _ _ => rfl⟩
def rHeads (l : List UInt8) (a : Nat) : Rd Pk := bd (rTxt l a) fun x1 a => bd (rInt l a) fun x2 a => bd (rLst rOptions l a) fun x3 a => bd (rLst rTable l a) fun x4 a => bd (rLst rGroup l a) fun x5 a => .ok (⟨x1, x2, x3, x4, x5, [], []⟩, a)
/-- What heads answers. -/
def VH (W : World) (lo : Nat) (x : Pk) (v : Value) : Prop := ∃ (a3 a4 a5 : Option Addr) (c3 c4 c5 : Nat), v = .agg #[.string ⟨x.name.toArray⟩, .int .i64 x.year, .slice a3 x.opts.length c3, .slice a4 x.tabs.length c4, .slice a5 x.grps.length c5, .slice none 0 0, .slice none 0 0] ∧ Rg x.year ∧ RowR eO W (fun b => lo ≤ b) x.opts a3 ∧ RowR eT W (fun b => lo ≤ b) x.tabs a4 ∧ RowR eG W (fun b => lo ≤ b) x.grps a5

set_option maxRecDepth 8000 in
set_option maxHeartbeats 16000000 in
theorem heads_any (c : Rc) (W : World) {at_ ft er : Nat} (h : CS c W at_ ft er) : Calls Try.prog 13 #[.pointer (some ⟨c.r, 0, none⟩)] W (Xd rHeads VH c at_ ft er W) := by
  have hr := h.lt
  have hs1 : (W.alloc (.cells #[.string ⟨#[]⟩, .int .i64 0, .slice none 0 0, .slice none 0 0, .slice none 0 0, .slice none 0 0, .slice none 0 0] 29)).heap.size = W.heap.size + 1 := by simp
  have hb0 := bx_new W #[.string ⟨#[]⟩, .int .i64 0, .slice none 0 0, .slice none 0 0, .slice none 0 0, .slice none 0 0, .slice none 0 0] 29
  have hb1 := bx_new (W.alloc (.cells #[.string ⟨#[]⟩, .int .i64 0, .slice none 0 0, .slice none 0 0, .slice none 0 0, .slice none 0 0, .slice none 0 0] 29)) #[.string ⟨#[]⟩, .int .i64 0, .slice none 0 0, .slice none 0 0, .slice none 0 0, .slice none 0 0, .slice none 0 0] 29
  rw [hs1] at hb1
  obtain ⟨V0, hX⟩ : ∃ X, (W.alloc (.cells #[.string ⟨#[]⟩, .int .i64 0, .slice none 0 0, .slice none 0 0, .slice none 0 0, .slice none 0 0, .slice none 0 0] 29)).alloc (.cells #[.string ⟨#[]⟩, .int .i64 0, .slice none 0 0, .slice none 0 0, .slice none 0 0, .slice none 0 0, .slice none 0 0] 29) = X := ⟨_, rfl⟩
  have hS0 : ES c W W.heap.size (W.heap.size + 1) [.string ⟨#[]⟩, .int .i64 0, .slice none 0 0, .slice none 0 0, .slice none 0 0, .slice none 0 0, .slice none 0 0] [.string ⟨#[]⟩, .int .i64 0, .slice none 0 0, .slice none 0 0, .slice none 0 0, .slice none 0 0, .slice none 0 0] at_ ft er V0 := by
    rw [← hX]
    exact ⟨(h.alloc _).alloc _, (World.grownBy_alloc _ _ _).trans (World.grownBy_alloc _ _ _), hb0.kept (World.grownBy_alloc _ _ none) (by simp), hb1, hr, h.below, Nat.le_refl _, Nat.le_succ _, by omega⟩
  clear h hb0 hb1 hs1
  go_enter Try.func13, Try.ntmps13
  have hc := text_any c V0 hS0.cs
  go_wp2_with (go_at_call 16; fail)
  clear hX
  refine hc.mono ?_
  rintro e w1 ⟨nm, aS1, fS1, eS1, rfl, hC, hg, hp1⟩
  have hT := hS0.call hC hg
  have o0 : w1.cell? ⟨W.heap.size + 1, 0, none⟩ = some (.string ⟨#[]⟩) := hT.ex.2.1 0 (show 0 < 7 by decide)
  have of0 : w1.frozen? ⟨W.heap.size + 1, 0, none⟩ = false := hT.ex.2.2 0
  have hU := hT.sete 0 (.string ⟨nm.toArray⟩)
  obtain ⟨V1, hV1⟩ : ∃ Y, w1.setCell ⟨W.heap.size + 1, 0, none⟩ (.string ⟨nm.toArray⟩) = Y := ⟨_, rfl⟩
  have hS1 : ES c W W.heap.size (W.heap.size + 1) [.string ⟨#[]⟩, .int .i64 0, .slice none 0 0, .slice none 0 0, .slice none 0 0, .slice none 0 0, .slice none 0 0] [.string ⟨nm.toArray⟩, .int .i64 0, .slice none 0 0, .slice none 0 0, .slice none 0 0, .slice none 0 0, .slice none 0 0] aS1 fS1 eS1 V1 := by rw [← hV1]; exact hU
  clear hc hC hg hT hU hS0
  have hc := int_any c V1 hS1.cs
  go_wp2_with (go_at_call 18; fail)
  clear hV1 o0 of0
  refine hc.mono ?_
  rintro e w2 ⟨yr, aS2, fS2, eS2, rfl, rgy, hC, hg, hp2⟩
  have hT := hS1.call hC hg
  have o0 : w2.cell? ⟨W.heap.size + 1, 1, none⟩ = some (.int .i64 0) := hT.ex.2.1 1 (show 1 < 7 by decide)
  have of0 : w2.frozen? ⟨W.heap.size + 1, 1, none⟩ = false := hT.ex.2.2 1
  have hU := hT.sete 1 (.int .i64 yr)
  obtain ⟨V2, hV2⟩ : ∃ Y, w2.setCell ⟨W.heap.size + 1, 1, none⟩ (.int .i64 yr) = Y := ⟨_, rfl⟩
  have hS2 : ES c W W.heap.size (W.heap.size + 1) [.string ⟨#[]⟩, .int .i64 0, .slice none 0 0, .slice none 0 0, .slice none 0 0, .slice none 0 0, .slice none 0 0] [.string ⟨nm.toArray⟩, .int .i64 yr, .slice none 0 0, .slice none 0 0, .slice none 0 0, .slice none 0 0, .slice none 0 0] aS2 fS2 eS2 V2 := by rw [← hV2]; exact hU
  clear hc hC hg hT hU hS1
  have hVl2 : W.heap.size + 2 ≤ V2.heap.size := hS2.ex.1
  have hc := list_any c V2 hS2.cs
  go_wp2_with (go_at_call 14; fail)
  clear hV2 o0 of0
  refine hc.mono ?_
  rintro e wl ⟨n, at7, ft7, er7, rfl, hn2, hn0, hC, hg, hp⟩
  have hS7 := hS2.call hC hg
  have hsz7 := hg.size
  have hrl : c.r < V2.heap.size := by omega
  have heb : W.heap.size + 1 < V2.heap.size := by omega
  have hq7 := Lq.start (item := rOptions) hp hn0
  clear hc hC hg hS2 hp
  replace hq7 := Hid.mk hq7
  go_upto_block 0 with fail
  go_cut [4] (fun nv wx => nv = .int .i64 (n : Int) ∧ ∃ (xs : List (List UInt8 × List (List UInt8))) (la : Option Addr) (lc a2 f2 e2 : Nat), ES c W W.heap.size (W.heap.size + 1) [.string ⟨#[]⟩, .int .i64 0, .slice none 0 0, .slice none 0 0, .slice none 0 0, .slice none 0 0, .slice none 0 0] [.string ⟨nm.toArray⟩, .int .i64 yr, .slice la xs.length lc, .slice none 0 0, .slice none 0 0, .slice none 0 0, .slice none 0 0] a2 f2 e2 wx ∧ V2.heap.size ≤ wx.heap.size ∧ RowR eO wx (SB (W.heap.size + 2) wx.heap.size) xs la ∧ Hid (Xp (rLst rOptions c.l aS2) fS2 eS2 a2 f2 e2 xs))
  case first =>
    go_wp2_with fail
    go_loopw [5] (fun iv wr => ∃ (i : Nat) (xs : List (List UInt8 × List (List UInt8))) (lv : Value) (at2 ft2 er2 : Nat), i ≤ n ∧ iv = .int .i64 (i : Int) ∧ Hid (xs.length = i) ∧ ES c W W.heap.size (W.heap.size + 1) [.string ⟨#[]⟩, .int .i64 0, .slice none 0 0, .slice none 0 0, .slice none 0 0, .slice none 0 0, .slice none 0 0] [.string ⟨nm.toArray⟩, .int .i64 yr, lv, .slice none 0 0, .slice none 0 0, .slice none 0 0, .slice none 0 0] at2 ft2 er2 wr ∧ V2.heap.size ≤ wr.heap.size ∧ GS eO 92 V2.heap.size wr lv xs ∧ Hid (Lq (rOptions c.l) (rLst rOptions c.l aS2) n i fS2 eS2 at2 ft2 er2 xs)) (fun iv _ => n - (intOf iv).toNat)
    case atStart => exact ⟨0, [], .slice none 0 0, at7, ft7, er7, Nat.zero_le _, rfl, ⟨rfl⟩, hS7, hsz7, gs_nil _ _ _ _, hq7⟩
    case round =>
      clear hS7 hsz7 hq7 
      obtain ⟨i, xs, lv, at8, ft8, er8, hin, rfl, hxl, hS8, hlo, hG8, hq8⟩ := hrel
      obtain ⟨wz, hwz⟩ : ∃ w, w = wr := ⟨_, rfl⟩
      rw [← hwz] at hS8 hlo hG8  ⊢
      clear hwz
      have c3 := hS8.cs.c3
      obtain ⟨la, lc, hlv⟩ : ∃ la lc, lv = .slice la xs.length lc := by obtain ⟨cs, ho, -⟩ := hG8; exact own_shapeG ho
      subst hlv
      by_cases hgo : i < n ∧ er8 = 0
      · obtain ⟨hlt, rfl⟩ := hgo
        have hlt' : (i : Int) < (n : Int) := by omega
        have hxl1 : xs.length ≤ 262144 := by have := hxl.out; omega
        have hown := fun g (e : (Value.slice la xs.length lc).ownBlock = some g) => hG8.choose_spec.1.lt g e
        have c3 : wz.cell? ⟨c.r, 3, none⟩ = some (.int .i64 0) := c3
        have hc := text_any c wz hS8.cs
        go_wp2_with (go_at_call 16; fail)
        clear c3
        refine hc.mono ?_
        rintro e u1 ⟨s, ak1, fk1, ek1, rfl, hC, hg1, hpk1⟩
        have hS9' := hS8.call hC hg1
        have hG9 := gs_kept hG8 hrl hg1
        have hs1 := hg1.size
        clear hc hC hS8 hG8
        have hKn := E3.new hS9' #[.string ⟨s.toArray⟩, .slice none 0 0] 92
        obtain ⟨U1, hU1⟩ : ∃ Y, Y = u1.alloc (.cells #[.string ⟨s.toArray⟩, .slice none 0 0] 92) := ⟨_, rfl⟩
        have hK1 : E3 c W u1 W.heap.size (W.heap.size + 1) u1.heap.size [.string ⟨#[]⟩, .int .i64 0, .slice none 0 0, .slice none 0 0, .slice none 0 0, .slice none 0 0, .slice none 0 0] [.string ⟨nm.toArray⟩, .int .i64 yr, .slice la xs.length lc, .slice none 0 0, .slice none 0 0, .slice none 0 0, .slice none 0 0] [.string ⟨s.toArray⟩, .slice none 0 0] ak1 fk1 ek1 U1 := by rw [hU1]; exact hKn
        replace hU1 := Hid.mk hU1
        have hkb : u1.heap.size < U1.heap.size := hK1.kx.1
        have hrl2 : c.r < U1.heap.size := by omega
        clear hKn
        have hc := list_any c U1 hK1.es.cs
        go_wp2_with (go_at_call 14; fail)
        rw [← hU1.out]
        clear hU1
        refine hc.mono ?_
        rintro e u2 ⟨m, ak2, fk2, ek2, rfl, hm2, hm0, hC, hg2, hpm⟩
        have hK2 := hK1.call hC hg2
        have hs2 := hg2.size
        have hq2 := Hid.mk (Lq.start (item := rTxt) hpm hm0)
        clear hc hC hg2 hpm hK1
        go_upto_block 2 with fail
        go_cut [7] from 24 to 65 (fun mv wx => mv = .int .i64 (m : Int) ∧ ∃ (ys : List (List UInt8)) (ya : Option Addr) (yc a2 f2 e2 : Nat), E3 c W u1 W.heap.size (W.heap.size + 1) u1.heap.size [.string ⟨#[]⟩, .int .i64 0, .slice none 0 0, .slice none 0 0, .slice none 0 0, .slice none 0 0, .slice none 0 0] [.string ⟨nm.toArray⟩, .int .i64 yr, .slice la xs.length lc, .slice none 0 0, .slice none 0 0, .slice none 0 0, .slice none 0 0] [.string ⟨s.toArray⟩, .slice ya ys.length yc] a2 f2 e2 wx ∧ RowR eS wx (fun b => U1.heap.size ≤ b) ys ya ∧ Hid (Xp (rLst rTxt c.l ak1) fk1 ek1 a2 f2 e2 ys))
        case first =>
          go_wp2_with fail
          go_loopw [8] (fun kv wr => ∃ (k : Nat) (ys : List (List UInt8)) (yv : Value) (a2 f2 e2 : Nat), k ≤ m ∧ kv = .int .i64 (k : Int) ∧ Hid (ys.length = k) ∧ E3 c W u1 W.heap.size (W.heap.size + 1) u1.heap.size [.string ⟨#[]⟩, .int .i64 0, .slice none 0 0, .slice none 0 0, .slice none 0 0, .slice none 0 0, .slice none 0 0] [.string ⟨nm.toArray⟩, .int .i64 yr, .slice la xs.length lc, .slice none 0 0, .slice none 0 0, .slice none 0 0, .slice none 0 0] [.string ⟨s.toArray⟩, yv] a2 f2 e2 wr ∧ U1.heap.size ≤ wr.heap.size ∧ GS eS 9 U1.heap.size wr yv ys ∧ Hid (Lq (rTxt c.l) (rLst rTxt c.l ak1) m k fk1 ek1 a2 f2 e2 ys)) (fun kv _ => m - (intOf kv).toNat)
          case atStart => exact ⟨0, [], .slice none 0 0, ak2, fk2, ek2, Nat.zero_le _, rfl, ⟨rfl⟩, hK2, hs2, gs_nil _ _ _ _, hq2⟩
          case round =>
            clear hK2 hs2 hq2
            obtain ⟨k, ys, yv, a8, f8, e8, hkm, rfl, hyl, hK8, hlo2, hY8, hqy⟩ := hrel
            obtain ⟨wy, hwy⟩ : ∃ w, w = wr := ⟨_, rfl⟩
            rw [← hwy] at hK8 hlo2 hY8 ⊢
            clear hwy
            have c3 := hK8.es.cs.c3
            obtain ⟨ya, yc, hyv⟩ : ∃ la lc, yv = .slice la ys.length lc := by obtain ⟨cs, ho, -⟩ := hY8; exact own_shapeG ho
            subst hyv
            by_cases hgo : k < m ∧ e8 = 0
            · obtain ⟨hkl, rfl⟩ := hgo
              have hkl' : (k : Int) < (m : Int) := by omega
              have hyl1 : ys.length ≤ 262144 := by have := hyl.out; omega
              have hown2 := fun g (e : (Value.slice ya ys.length yc).ownBlock = some g) => hY8.choose_spec.1.lt g e
              have c3 : wy.cell? ⟨c.r, 3, none⟩ = some (.int .i64 0) := c3
              have hSd := hK8.drew
              have hcall := text_any c wy.drew hSd.es.cs
              obtain ⟨i0, hi, hz0, hz1, hz2⟩ := info_parts info_str
              have s4 : wy.drew.cell? ⟨u1.heap.size, 1, none⟩ = some (.slice ya ys.length yc) := hSd.kx.2.1 1 (show 1 < 2 by decide)
              have hGd := gs_kept hY8 hrl2 (⟨rfl, rfl, rfl, Nat.le_refl _, fun _ _ _ => rfl⟩ : wy.grownBy wy.drew (some c.r))
              go_wp2_with fail
              go_region_law
                (first
                  | (go_simp; go_at_call 16; refine hcall.mono ?_; rintro e w9 ⟨x, at9, ft9, er9, rfl, hC9, hg9, hp9⟩; have hS9 := hSd.call hC9 hg9; have s9 : w9.cell? ⟨u1.heap.size, 1, none⟩ = some (.slice ya ys.length yc) := hS9.kx.2.1 1 (show 1 < 2 by decide); have hGA := gs_alloc (gs_kept hGd hrl2 hg9) (.cells #[.string ⟨x.toArray⟩] 9); have hSA := hS9.alloc (.cells #[.string ⟨x.toArray⟩] 9); have sA : (w9.alloc (.cells #[.string ⟨x.toArray⟩] 9)).cell? ⟨u1.heap.size, 1, none⟩ = some (.slice ya ys.length yc) := hSA.kx.2.1 1 (show 1 < 2 by decide); obtain ⟨cs, ho, hEl⟩ := hGA; have hsz : U1.heap.size ≤ (w9.alloc (.cells #[.string ⟨x.toArray⟩] 9)).heap.size := Nat.le_trans hlo2 (Nat.le_trans hg9.size (World.grownBy_alloc w9 (.cells #[.string ⟨x.toArray⟩] 9) none).size))
                  | (refine step_append_g (P := Try.prog) _ rfl _ _ 90 rfl U1.heap.size 9 i0 _ 1 16 Try.underlying90 hi hz0 hz1 hz2 rfl (by decide) _ ys.length cs rfl ho ⟨w9.heap.size, 0, none⟩ 1 1 [.string ⟨x.toArray⟩] rfl rfl (lit_at w9 _ _) (by simp [Value.oneCell']) (by unfold maxLen; omega) (by omega) hsz ?_; intro v' w10 hown' hgrow hat; obtain ⟨ga, ca, rfl⟩ := own_shapeG hown'; have hne10 : some (u1.heap.size) ≠ (Value.slice ya ys.length yc).ownBlock := (fun e => by have := (hown2 _ e.symm).1; have := hkb; omega); have s10 : w10.cell? ⟨u1.heap.size, 1, none⟩ = some (.slice ya ys.length yc) := (gr_cell hgrow hSA.kx.1 hne10 1).trans sA; have sf10 : w10.frozen? ⟨u1.heap.size, 1, none⟩ = false := (gr_frozen hgrow hSA.kx.1 hne10 1).trans (hSA.kx.2.2 1)))
              all_goals
                have hK10 := hSA.other hgrow (fun g e => by have h1 := (hown2 g e).1; omega)
                have hK11 := hK10.setk 1 (.slice ga (ys.length + 1) ca)
                have hK11 : E3 c W u1 W.heap.size (W.heap.size + 1) u1.heap.size [.string ⟨#[]⟩, .int .i64 0, .slice none 0 0, .slice none 0 0, .slice none 0 0, .slice none 0 0, .slice none 0 0] [.string ⟨nm.toArray⟩, .int .i64 yr, .slice la xs.length lc, .slice none 0 0, .slice none 0 0, .slice none 0 0, .slice none 0 0] [.string ⟨s.toArray⟩, .slice ga (ys.length + 1) ca] at9 ft9 er9 (w10.setCell ⟨u1.heap.size, 1, none⟩ (.slice ga (ys.length + 1) ca)) := hK11
                have hEx : eS.E (w9.alloc (.cells #[.string ⟨x.toArray⟩] 9)) (fun b => wy.heap.size ≤ b) x [.string ⟨x.toArray⟩] := rfl
                have hY10 := gs_step (b0 := wy.heap.size) hEl hEx hlo2 (fun g e => (hown2 g e).2) hgrow hat hown'
                have hY11 := gs_kept hY10 hkb (gr_set w10 u1.heap.size 1 (.slice ga (ys.length + 1) ca))
                have hsz11 : U1.heap.size ≤ (w10.setCell ⟨u1.heap.size, 1, none⟩ (.slice ga (ys.length + 1) ca)).heap.size := Nat.le_trans hsz (Nat.le_trans hgrow.size (gr_set w10 u1.heap.size 1 (.slice ga (ys.length + 1) ca)).size)
                have hq9 := Hid.mk (hqy.out.step hkl hp9)
                clear hK10 hSA hS9 hSd hEl ho hcall hgrow hat hown' hC9 hg9 hp9 hEx hY10 hGd hK8 hY8 hqy s10 sf10 sA s9 s4
                go_wp2
                go_roundw
                case rel => exact ⟨k + 1, ys ++ [x], _, _, _, _, by omega, by go_num, ⟨by rw [List.length_append, hyl.out]; rfl⟩, hK11, hsz11, hY11, hq9⟩
                case measure => simp [intOf]; omega
            · have hylo := hyl.out
              have hAx := Hid.mk (hqy.out.done (by by_cases h : e8 = 0; exact .inl (by omega); exact .inr h) hylo hkm)
              have hrow : RowR eS wy (fun b => U1.heap.size ≤ b) ys ya := by
                obtain ⟨a, cap, e, h⟩ := gs_done hY8
                simp only [Value.slice.injEq] at e
                rw [e.1]
                exact h
              clear hY8 hylo hqy
              by_cases hkl : k < m
              · have hkl' : (k : Int) < (m : Int) := by omega
                have he8 : e8 ≠ 0 := fun e => hgo ⟨hkl, e⟩
                have he' : ((e8 : Int) == 0) = false := by simp; omega
                clear he8 hgo
                go_wp2_with fail
                go_meet
                exact ⟨rfl, ys, ya, yc, a8, f8, e8, hK8, hrow, hAx⟩
              · have hkl' : ¬ (k : Int) < (m : Int) := by omega
                clear hgo
                go_wp2_with fail
                go_meet
                exact ⟨rfl, ys, ya, yc, a8, f8, e8, hK8, hrow, hAx⟩
        case rest =>
        obtain ⟨rfl, ys, ya, yc, ak3, fk3, ek3, hK3, hyrow, hpy⟩ := hcut
        obtain ⟨U3, hU3⟩ : ∃ w, w = wc := ⟨_, rfl⟩
        rw [← hU3] at hK3 hyrow ⊢
        clear hU3 hK2 hs2 hq2
        have hKA := hK3.alloc (.cells #[.string ⟨s.toArray⟩, .slice ya ys.length yc] 92)
        have hGA := gs_alloc (gs_kept hG9 hrl hK3.gw) (.cells #[.string ⟨s.toArray⟩, .slice ya ys.length yc] 92)
        obtain ⟨cs, ho, hEl⟩ := hGA
        have k0 : U3.cell? ⟨u1.heap.size, 0, none⟩ = some (.string ⟨s.toArray⟩) := hK3.kx.2.1 0 (show 0 < 2 by decide)
        have k1 : U3.cell? ⟨u1.heap.size, 1, none⟩ = some (.slice ya ys.length yc) := hK3.kx.2.1 1 (show 1 < 2 by decide)
        have l6 : U3.cell? ⟨W.heap.size + 1, 2, none⟩ = some (.slice la xs.length lc) := hK3.es.ex.2.1 2 (show 2 < 7 by decide)
        have hsz : V2.heap.size ≤ (U3.alloc (.cells #[.string ⟨s.toArray⟩, .slice ya ys.length yc] 92)).heap.size := Nat.le_trans hlo (Nat.le_trans hs1 hKA.gw.size)
        have lA : (U3.alloc (.cells #[.string ⟨s.toArray⟩, .slice ya ys.length yc] 92)).cell? ⟨W.heap.size + 1, 2, none⟩ = some (.slice la xs.length lc) := hKA.es.ex.2.1 2 (show 2 < 7 by decide)
        obtain ⟨i0, hi, hz0, hz1, hz2⟩ := info_parts info_options
        go_wp2_with (at_builtin; refine wpList_append_own_at (P := Try.prog) _ rfl _ _ 23 rfl V2.heap.size 92 i0 _ 2 40 Try.underlying23 hi hz0 hz1 hz2 rfl (by decide) _ xs.length cs rfl ho ⟨U3.heap.size, 0, none⟩ 1 1 [.string ⟨s.toArray⟩, .slice ya ys.length yc] rfl rfl (lit_at U3 _ _) (by simp [Value.oneCell']) (by unfold maxLen; omega) (by omega) hsz ?_; intro v' w10 hown' hgrow _h hat; clear _h; obtain ⟨ga, ca, rfl⟩ := own_shapeG hown'; have hne10 : some (W.heap.size + 1) ≠ (Value.slice la xs.length lc).ownBlock := (fun e => by have := (hown _ e.symm).1; omega); have s10 : w10.cell? ⟨W.heap.size + 1, 2, none⟩ = some (.slice la xs.length lc) := (gr_cell hgrow hKA.es.ex.1 hne10 2).trans lA; have sf10 : w10.frozen? ⟨W.heap.size + 1, 2, none⟩ = false := (gr_frozen hgrow hKA.es.ex.1 hne10 2).trans (hKA.es.ex.2.2 2); refine dbgM ?_)
        unfold Marker
        have hS10 : ES c W W.heap.size (W.heap.size + 1) [.string ⟨#[]⟩, .int .i64 0, .slice none 0 0, .slice none 0 0, .slice none 0 0, .slice none 0 0, .slice none 0 0] [.string ⟨nm.toArray⟩, .int .i64 yr, .slice la xs.length lc, .slice none 0 0, .slice none 0 0, .slice none 0 0, .slice none 0 0] ak3 fk3 ek3 w10 := hKA.es.other hgrow (fun g e => by have h1 := (hown g e).1; omega)
        have hal := World.grownBy_alloc U3 (.cells #[.string ⟨s.toArray⟩, .slice ya ys.length yc] 92) none
        have hEx : eO.E (U3.alloc (.cells #[.string ⟨s.toArray⟩, .slice ya ys.length yc] 92)) (fun b => wz.heap.size ≤ b) (s, ys) [.string ⟨s.toArray⟩, .slice ya ys.length yc] := eO.fr (show eO.E U3 (fun b => wz.heap.size ≤ b) (s, ys) [.string ⟨s.toArray⟩, .slice ya ys.length yc] from ⟨ya, yc, rfl, hyrow.mo (fun b _ hb => Nat.le_trans (Nat.le_trans hs1 (Nat.le_of_lt hkb)) hb)⟩) hal.size (fun b _ hlt => hal.block b hlt (by simp))
        have hS11 : ES c W W.heap.size (W.heap.size + 1) [.string ⟨#[]⟩, .int .i64 0, .slice none 0 0, .slice none 0 0, .slice none 0 0, .slice none 0 0, .slice none 0 0] [.string ⟨nm.toArray⟩, .int .i64 yr, .slice ga (xs.length + 1) ca, .slice none 0 0, .slice none 0 0, .slice none 0 0, .slice none 0 0] ak3 fk3 ek3 (w10.setCell ⟨W.heap.size + 1, 2, none⟩ (.slice ga (xs.length + 1) ca)) := hS10.sete 2 (.slice ga (xs.length + 1) ca)
        have hG10 := gs_step (b0 := wz.heap.size) hEl hEx hlo (fun g e => (hown g e).2) hgrow hat hown'
        have hG11 := gs_kept hG10 heb (gr_set w10 (W.heap.size + 1) 2 (.slice ga (xs.length + 1) ca))
        have hsz11 : V2.heap.size ≤ (w10.setCell ⟨W.heap.size + 1, 2, none⟩ (.slice ga (xs.length + 1) ca)).heap.size := Nat.le_trans hsz (Nat.le_trans hgrow.size (gr_set w10 (W.heap.size + 1) 2 (.slice ga (xs.length + 1) ca)).size)
        have hq9 := Hid.mk (hq8.out.step hlt (hpk1.bd (hpy.out.bd Xp.pure)))
        clear hS10 hEl ho hgrow hat hown' hEx hG10 hS9' hG9 hg1 hpk1 hq8 hKA hK3 hyrow hpy k0 k1 l6 lA hal
        go_wp2
        go_roundw
        case rel => exact ⟨i + 1, xs ++ [(s, ys)], _, _, _, _, by omega, by go_num, ⟨by rw [List.length_append, hxl.out]; rfl⟩, hS11, hsz11, hG11, hq9⟩
        case measure => simp [intOf]; omega
      · have hxlo := hxl.out
        have hAx := Hid.mk (hq8.out.done (by by_cases h : er8 = 0; exact .inl (by omega); exact .inr h) hxlo hin)
        have hrow : RowR eO wz (SB (W.heap.size + 2) wz.heap.size) xs la := by
          obtain ⟨a, cap, e, h⟩ := gs_done hG8
          simp only [Value.slice.injEq] at e
          rw [e.1]
          exact h.mo (fun b hlt hb => ⟨Nat.le_trans hVl2 hb, hlt⟩)
        clear hG8 hxlo hq8
        by_cases hlt : i < n
        · have hlt' : (i : Int) < (n : Int) := by omega
          have he8 : er8 ≠ 0 := fun e => hgo ⟨hlt, e⟩
          have he' : ((er8 : Int) == 0) = false := by simp; omega
          clear he8 hgo
          go_wp2_with fail
          go_meet
          exact ⟨rfl, xs, la, lc, at8, ft8, er8, hS8, hlo, hrow, hAx⟩
        · have hlt' : ¬ (i : Int) < (n : Int) := by omega
          clear hgo
          go_wp2_with fail
          go_meet
          exact ⟨rfl, xs, la, lc, at8, ft8, er8, hS8, hlo, hrow, hAx⟩
  case rest =>
  clear hS7 hsz7 hq7 
  obtain ⟨rfl, xs1, la1, lc1, aE2, fE2, eE2, hE2, hLe, hR1, hpL1⟩ := hcut
  obtain ⟨Vx2, hVx⟩ : ∃ w, w = wc := ⟨_, rfl⟩
  rw [← hVx] at hE2 hLe hR1  ⊢
  clear hVx hrl heb hn2 hn0
  have hVl3 := Nat.le_trans hVl2 hLe
  clear hLe
  have hc := list_any c Vx2 hE2.cs
  go_wp2_with (go_at_call 14; fail)
  refine hc.mono ?_
  rintro e wl ⟨n, at7, ft7, er7, rfl, hn2, hn0, hC, hg, hp⟩
  have hS7 := hE2.call hC hg
  have hsz7 := hg.size
  have hrl : c.r < Vx2.heap.size := by omega
  have heb : W.heap.size + 1 < Vx2.heap.size := by omega
  replace hR1 := row_low hR1 hg (show c.r < W.heap.size + 2 by omega)
  have hq7 := Lq.start (item := rTable) hp hn0
  clear hc hC hg hE2 hp
  replace hq7 := Hid.mk hq7
  go_upto_block 4 with fail
  go_cut [4] (fun nv wx => nv = .int .i64 (n : Int) ∧ ∃ (xs : List (List UInt8 × List (Int × Int))) (la : Option Addr) (lc a2 f2 e2 : Nat), ES c W W.heap.size (W.heap.size + 1) [.string ⟨#[]⟩, .int .i64 0, .slice none 0 0, .slice none 0 0, .slice none 0 0, .slice none 0 0, .slice none 0 0] [.string ⟨nm.toArray⟩, .int .i64 yr, .slice la1 xs1.length lc1, .slice la xs.length lc, .slice none 0 0, .slice none 0 0, .slice none 0 0] a2 f2 e2 wx ∧ Vx2.heap.size ≤ wx.heap.size ∧ RowR eT wx (SB (W.heap.size + 2) wx.heap.size) xs la ∧ RowR eO wx (SB (W.heap.size + 2) Vx2.heap.size) xs1 la1 ∧ Hid (Xp (rLst rTable c.l aE2) fE2 eE2 a2 f2 e2 xs))
  case first =>
    go_wp2_with fail
    go_loopw [9] (fun iv wr => ∃ (i : Nat) (xs : List (List UInt8 × List (Int × Int))) (lv : Value) (at2 ft2 er2 : Nat), i ≤ n ∧ iv = .int .i64 (i : Int) ∧ Hid (xs.length = i) ∧ ES c W W.heap.size (W.heap.size + 1) [.string ⟨#[]⟩, .int .i64 0, .slice none 0 0, .slice none 0 0, .slice none 0 0, .slice none 0 0, .slice none 0 0] [.string ⟨nm.toArray⟩, .int .i64 yr, .slice la1 xs1.length lc1, lv, .slice none 0 0, .slice none 0 0, .slice none 0 0] at2 ft2 er2 wr ∧ Vx2.heap.size ≤ wr.heap.size ∧ GS eT 95 Vx2.heap.size wr lv xs ∧ RowR eO wr (SB (W.heap.size + 2) Vx2.heap.size) xs1 la1 ∧ Hid (Lq (rTable c.l) (rLst rTable c.l aE2) n i fE2 eE2 at2 ft2 er2 xs)) (fun iv _ => n - (intOf iv).toNat)
    case atStart => exact ⟨0, [], .slice none 0 0, at7, ft7, er7, Nat.zero_le _, rfl, ⟨rfl⟩, hS7, hsz7, gs_nil _ _ _ _, hR1, hq7⟩
    case round =>
      clear hS7 hsz7 hq7 hR1
      obtain ⟨i, xs, lv, at8, ft8, er8, hin, rfl, hxl, hS8, hlo, hG8, hR1, hq8⟩ := hrel
      obtain ⟨wz, hwz⟩ : ∃ w, w = wr := ⟨_, rfl⟩
      rw [← hwz] at hS8 hlo hG8 hR1 ⊢
      clear hwz
      have c3 := hS8.cs.c3
      obtain ⟨la, lc, hlv⟩ : ∃ la lc, lv = .slice la xs.length lc := by obtain ⟨cs, ho, -⟩ := hG8; exact own_shapeG ho
      subst hlv
      by_cases hgo : i < n ∧ er8 = 0
      · obtain ⟨hlt, rfl⟩ := hgo
        have hlt' : (i : Int) < (n : Int) := by omega
        have hxl1 : xs.length ≤ 262144 := by have := hxl.out; omega
        have hown := fun g (e : (Value.slice la xs.length lc).ownBlock = some g) => hG8.choose_spec.1.lt g e
        have c3 : wz.cell? ⟨c.r, 3, none⟩ = some (.int .i64 0) := c3
        have hc := text_any c wz hS8.cs
        go_wp2_with (go_at_call 16; fail)
        clear c3
        refine hc.mono ?_
        rintro e u1 ⟨s, ak1, fk1, ek1, rfl, hC, hg1, hpk1⟩
        have hS9' := hS8.call hC hg1
        have hG9 := gs_kept hG8 hrl hg1
        have hs1 := hg1.size
        replace hR1 := row_low hR1 hg1 (show c.r < W.heap.size + 2 by omega)
        clear hc hC hS8 hG8
        have hKn := E3.new hS9' #[.string ⟨s.toArray⟩, .slice none 0 0] 95
        obtain ⟨U1, hU1⟩ : ∃ Y, Y = u1.alloc (.cells #[.string ⟨s.toArray⟩, .slice none 0 0] 95) := ⟨_, rfl⟩
        have hK1 : E3 c W u1 W.heap.size (W.heap.size + 1) u1.heap.size [.string ⟨#[]⟩, .int .i64 0, .slice none 0 0, .slice none 0 0, .slice none 0 0, .slice none 0 0, .slice none 0 0] [.string ⟨nm.toArray⟩, .int .i64 yr, .slice la1 xs1.length lc1, .slice la xs.length lc, .slice none 0 0, .slice none 0 0, .slice none 0 0] [.string ⟨s.toArray⟩, .slice none 0 0] ak1 fk1 ek1 U1 := by rw [hU1]; exact hKn
        replace hU1 := Hid.mk hU1
        have hkb : u1.heap.size < U1.heap.size := hK1.kx.1
        have hrl2 : c.r < U1.heap.size := by omega
        clear hKn
        have hc := list_any c U1 hK1.es.cs
        go_wp2_with (go_at_call 14; fail)
        rw [← hU1.out]
        clear hU1
        refine hc.mono ?_
        rintro e u2 ⟨m, ak2, fk2, ek2, rfl, hm2, hm0, hC, hg2, hpm⟩
        have hK2 := hK1.call hC hg2
        have hs2 := hg2.size
        have hq2 := Hid.mk (Lq.start (item := rBand) hpm hm0)
        clear hc hC hg2 hpm hK1
        go_upto_block 6 with fail
        go_cut [11] from 68 to 113 (fun mv wx => mv = .int .i64 (m : Int) ∧ ∃ (ys : List (Int × Int)) (ya : Option Addr) (yc a2 f2 e2 : Nat), E3 c W u1 W.heap.size (W.heap.size + 1) u1.heap.size [.string ⟨#[]⟩, .int .i64 0, .slice none 0 0, .slice none 0 0, .slice none 0 0, .slice none 0 0, .slice none 0 0] [.string ⟨nm.toArray⟩, .int .i64 yr, .slice la1 xs1.length lc1, .slice la xs.length lc, .slice none 0 0, .slice none 0 0, .slice none 0 0] [.string ⟨s.toArray⟩, .slice ya ys.length yc] a2 f2 e2 wx ∧ RowR eBd wx (fun b => U1.heap.size ≤ b) ys ya ∧ Hid (Xp (rLst rBand c.l ak1) fk1 ek1 a2 f2 e2 ys))
        case first =>
          go_wp2_with fail
          go_loopw [12] (fun kv wr => ∃ (k : Nat) (ys : List (Int × Int)) (yv : Value) (a2 f2 e2 : Nat), k ≤ m ∧ kv = .int .i64 (k : Int) ∧ Hid (ys.length = k) ∧ E3 c W u1 W.heap.size (W.heap.size + 1) u1.heap.size [.string ⟨#[]⟩, .int .i64 0, .slice none 0 0, .slice none 0 0, .slice none 0 0, .slice none 0 0, .slice none 0 0] [.string ⟨nm.toArray⟩, .int .i64 yr, .slice la1 xs1.length lc1, .slice la xs.length lc, .slice none 0 0, .slice none 0 0, .slice none 0 0] [.string ⟨s.toArray⟩, yv] a2 f2 e2 wr ∧ U1.heap.size ≤ wr.heap.size ∧ GS eBd 97 U1.heap.size wr yv ys ∧ Hid (Lq (rBand c.l) (rLst rBand c.l ak1) m k fk1 ek1 a2 f2 e2 ys)) (fun kv _ => m - (intOf kv).toNat)
          case atStart => exact ⟨0, [], .slice none 0 0, ak2, fk2, ek2, Nat.zero_le _, rfl, ⟨rfl⟩, hK2, hs2, gs_nil _ _ _ _, hq2⟩
          case round =>
            clear hK2 hs2 hq2
            obtain ⟨k, ys, yv, a8, f8, e8, hkm, rfl, hyl, hK8, hlo2, hY8, hqy⟩ := hrel
            obtain ⟨wy, hwy⟩ : ∃ w, w = wr := ⟨_, rfl⟩
            rw [← hwy] at hK8 hlo2 hY8 ⊢
            clear hwy
            have c3 := hK8.es.cs.c3
            obtain ⟨ya, yc, hyv⟩ : ∃ la lc, yv = .slice la ys.length lc := by obtain ⟨cs, ho, -⟩ := hY8; exact own_shapeG ho
            subst hyv
            by_cases hgo : k < m ∧ e8 = 0
            · obtain ⟨hkl, rfl⟩ := hgo
              have hkl' : (k : Int) < (m : Int) := by omega
              have hyl1 : ys.length ≤ 262144 := by have := hyl.out; omega
              have hown2 := fun g (e : (Value.slice ya ys.length yc).ownBlock = some g) => hY8.choose_spec.1.lt g e
              have c3 : wy.cell? ⟨c.r, 3, none⟩ = some (.int .i64 0) := c3
              have hc := int_any c wy hK8.es.cs
              go_wp2_with (go_at_call 18; fail)
              clear c3
              refine hc.mono ?_
              rintro e wf ⟨z1, af, ff, ef, rfl, rgz1, hC, hgf, hpf⟩
              have hKf := hK8.call hC hgf
              have hYf := gs_kept hY8 hrl2 hgf
              have hlof := Nat.le_trans hlo2 hgf.size
              clear hc hC
              have hSd := hKf.drew
              have hcall := int_any c wf.drew hSd.es.cs
              obtain ⟨i0, hi, hz0, hz1, hz2⟩ := info_parts info_band
              have s4 : wf.drew.cell? ⟨u1.heap.size, 1, none⟩ = some (.slice ya ys.length yc) := hSd.kx.2.1 1 (show 1 < 2 by decide)
              have hGd := gs_kept hYf hrl2 (⟨rfl, rfl, rfl, Nat.le_refl _, fun _ _ _ => rfl⟩ : wf.grownBy wf.drew (some c.r))
              go_wp2_with fail
              go_region_law
                (first
                  | (go_simp; go_at_call 18; refine hcall.mono ?_; rintro e w9 ⟨z2, at9, ft9, er9, rfl, rgz2, hC9, hg9, hp9⟩; have hS9 := hSd.call hC9 hg9; have s9 : w9.cell? ⟨u1.heap.size, 1, none⟩ = some (.slice ya ys.length yc) := hS9.kx.2.1 1 (show 1 < 2 by decide); have hGA := gs_alloc (gs_kept hGd hrl2 hg9) (.cells #[.int .i64 z1, .int .i64 z2] 97); have hSA := hS9.alloc (.cells #[.int .i64 z1, .int .i64 z2] 97); have sA : (w9.alloc (.cells #[.int .i64 z1, .int .i64 z2] 97)).cell? ⟨u1.heap.size, 1, none⟩ = some (.slice ya ys.length yc) := hSA.kx.2.1 1 (show 1 < 2 by decide); obtain ⟨cs, ho, hEl⟩ := hGA; have hsz : U1.heap.size ≤ (w9.alloc (.cells #[.int .i64 z1, .int .i64 z2] 97)).heap.size := Nat.le_trans hlof (Nat.le_trans hg9.size (World.grownBy_alloc w9 (.cells #[.int .i64 z1, .int .i64 z2] 97) none).size))
                  | (refine step_append_g (P := Try.prog) _ rfl _ _ 93 rfl U1.heap.size 97 i0 _ 2 16 Try.underlying93 hi hz0 hz1 hz2 rfl (by decide) _ ys.length cs rfl ho ⟨w9.heap.size, 0, none⟩ 1 1 [.int .i64 z1, .int .i64 z2] rfl rfl (lit_at w9 _ _) (by simp [Value.oneCell']) (by unfold maxLen; omega) (by omega) hsz ?_; intro v' w10 hown' hgrow hat; obtain ⟨ga, ca, rfl⟩ := own_shapeG hown'; have hne10 : some (u1.heap.size) ≠ (Value.slice ya ys.length yc).ownBlock := (fun e => by have := (hown2 _ e.symm).1; have := hkb; omega); have s10 : w10.cell? ⟨u1.heap.size, 1, none⟩ = some (.slice ya ys.length yc) := (gr_cell hgrow hSA.kx.1 hne10 1).trans sA; have sf10 : w10.frozen? ⟨u1.heap.size, 1, none⟩ = false := (gr_frozen hgrow hSA.kx.1 hne10 1).trans (hSA.kx.2.2 1)))
              all_goals
                have hK10 := hSA.other hgrow (fun g e => by have h1 := (hown2 g e).1; omega)
                have hK11 := hK10.setk 1 (.slice ga (ys.length + 1) ca)
                have hK11 : E3 c W u1 W.heap.size (W.heap.size + 1) u1.heap.size [.string ⟨#[]⟩, .int .i64 0, .slice none 0 0, .slice none 0 0, .slice none 0 0, .slice none 0 0, .slice none 0 0] [.string ⟨nm.toArray⟩, .int .i64 yr, .slice la1 xs1.length lc1, .slice la xs.length lc, .slice none 0 0, .slice none 0 0, .slice none 0 0] [.string ⟨s.toArray⟩, .slice ga (ys.length + 1) ca] at9 ft9 er9 (w10.setCell ⟨u1.heap.size, 1, none⟩ (.slice ga (ys.length + 1) ca)) := hK11
                have hEx : eBd.E (w9.alloc (.cells #[.int .i64 z1, .int .i64 z2] 97)) (fun b => wy.heap.size ≤ b) (z1, z2) [.int .i64 z1, .int .i64 z2] := ⟨rfl, rgz1, rgz2⟩
                have hY10 := gs_step (b0 := wy.heap.size) hEl hEx hlo2 (fun g e => (hown2 g e).2) hgrow hat hown'
                have hY11 := gs_kept hY10 hkb (gr_set w10 u1.heap.size 1 (.slice ga (ys.length + 1) ca))
                have hsz11 : U1.heap.size ≤ (w10.setCell ⟨u1.heap.size, 1, none⟩ (.slice ga (ys.length + 1) ca)).heap.size := Nat.le_trans hsz (Nat.le_trans hgrow.size (gr_set w10 u1.heap.size 1 (.slice ga (ys.length + 1) ca)).size)
                have hq9 := Hid.mk (hqy.out.step hkl (hpf.bd (hp9.bd Xp.pure)))
                clear hK10 hSA hS9 hSd hEl ho hcall hgrow hat hown' hC9 hg9 hp9 hEx hY10 hGd hK8 hY8 hqy s10 sf10 sA s9 s4 hKf hYf hgf hpf
                go_wp2
                go_roundw
                case rel => exact ⟨k + 1, ys ++ [(z1, z2)], _, _, _, _, by omega, by go_num, ⟨by rw [List.length_append, hyl.out]; rfl⟩, hK11, hsz11, hY11, hq9⟩
                case measure => simp [intOf]; omega
            · have hylo := hyl.out
              have hAx := Hid.mk (hqy.out.done (by by_cases h : e8 = 0; exact .inl (by omega); exact .inr h) hylo hkm)
              have hrow : RowR eBd wy (fun b => U1.heap.size ≤ b) ys ya := by
                obtain ⟨a, cap, e, h⟩ := gs_done hY8
                simp only [Value.slice.injEq] at e
                rw [e.1]
                exact h
              clear hY8 hylo hqy
              by_cases hkl : k < m
              · have hkl' : (k : Int) < (m : Int) := by omega
                have he8 : e8 ≠ 0 := fun e => hgo ⟨hkl, e⟩
                have he' : ((e8 : Int) == 0) = false := by simp; omega
                clear he8 hgo
                go_wp2_with fail
                go_meet
                exact ⟨rfl, ys, ya, yc, a8, f8, e8, hK8, hrow, hAx⟩
              · have hkl' : ¬ (k : Int) < (m : Int) := by omega
                clear hgo
                go_wp2_with fail
                go_meet
                exact ⟨rfl, ys, ya, yc, a8, f8, e8, hK8, hrow, hAx⟩
        case rest =>
        obtain ⟨rfl, ys, ya, yc, ak3, fk3, ek3, hK3, hyrow, hpy⟩ := hcut
        obtain ⟨U3, hU3⟩ : ∃ w, w = wc := ⟨_, rfl⟩
        rw [← hU3] at hK3 hyrow ⊢
        clear hU3 hK2 hs2 hq2
        have hKA := hK3.alloc (.cells #[.string ⟨s.toArray⟩, .slice ya ys.length yc] 95)
        have hGA := gs_alloc (gs_kept hG9 hrl hK3.gw) (.cells #[.string ⟨s.toArray⟩, .slice ya ys.length yc] 95)
        obtain ⟨cs, ho, hEl⟩ := hGA
        have k0 : U3.cell? ⟨u1.heap.size, 0, none⟩ = some (.string ⟨s.toArray⟩) := hK3.kx.2.1 0 (show 0 < 2 by decide)
        have k1 : U3.cell? ⟨u1.heap.size, 1, none⟩ = some (.slice ya ys.length yc) := hK3.kx.2.1 1 (show 1 < 2 by decide)
        have l6 : U3.cell? ⟨W.heap.size + 1, 3, none⟩ = some (.slice la xs.length lc) := hK3.es.ex.2.1 3 (show 3 < 7 by decide)
        have hsz : Vx2.heap.size ≤ (U3.alloc (.cells #[.string ⟨s.toArray⟩, .slice ya ys.length yc] 95)).heap.size := Nat.le_trans hlo (Nat.le_trans hs1 hKA.gw.size)
        have lA : (U3.alloc (.cells #[.string ⟨s.toArray⟩, .slice ya ys.length yc] 95)).cell? ⟨W.heap.size + 1, 3, none⟩ = some (.slice la xs.length lc) := hKA.es.ex.2.1 3 (show 3 < 7 by decide)
        obtain ⟨i0, hi, hz0, hz1, hz2⟩ := info_parts info_table
        go_wp2_with (at_builtin; refine wpList_append_own_at (P := Try.prog) _ rfl _ _ 24 rfl Vx2.heap.size 95 i0 _ 2 40 Try.underlying24 hi hz0 hz1 hz2 rfl (by decide) _ xs.length cs rfl ho ⟨U3.heap.size, 0, none⟩ 1 1 [.string ⟨s.toArray⟩, .slice ya ys.length yc] rfl rfl (lit_at U3 _ _) (by simp [Value.oneCell']) (by unfold maxLen; omega) (by omega) hsz ?_; intro v' w10 hown' hgrow _h hat; clear _h; obtain ⟨ga, ca, rfl⟩ := own_shapeG hown'; have hne10 : some (W.heap.size + 1) ≠ (Value.slice la xs.length lc).ownBlock := (fun e => by have := (hown _ e.symm).1; omega); have s10 : w10.cell? ⟨W.heap.size + 1, 3, none⟩ = some (.slice la xs.length lc) := (gr_cell hgrow hKA.es.ex.1 hne10 3).trans lA; have sf10 : w10.frozen? ⟨W.heap.size + 1, 3, none⟩ = false := (gr_frozen hgrow hKA.es.ex.1 hne10 3).trans (hKA.es.ex.2.2 3); refine dbgM ?_)
        unfold Marker
        have hS10 : ES c W W.heap.size (W.heap.size + 1) [.string ⟨#[]⟩, .int .i64 0, .slice none 0 0, .slice none 0 0, .slice none 0 0, .slice none 0 0, .slice none 0 0] [.string ⟨nm.toArray⟩, .int .i64 yr, .slice la1 xs1.length lc1, .slice la xs.length lc, .slice none 0 0, .slice none 0 0, .slice none 0 0] ak3 fk3 ek3 w10 := hKA.es.other hgrow (fun g e => by have h1 := (hown g e).1; omega)
        have hal := World.grownBy_alloc U3 (.cells #[.string ⟨s.toArray⟩, .slice ya ys.length yc] 95) none
        have hEx : eT.E (U3.alloc (.cells #[.string ⟨s.toArray⟩, .slice ya ys.length yc] 95)) (fun b => wz.heap.size ≤ b) (s, ys) [.string ⟨s.toArray⟩, .slice ya ys.length yc] := eT.fr (show eT.E U3 (fun b => wz.heap.size ≤ b) (s, ys) [.string ⟨s.toArray⟩, .slice ya ys.length yc] from ⟨ya, yc, rfl, hyrow.mo (fun b _ hb => Nat.le_trans (Nat.le_trans hs1 (Nat.le_of_lt hkb)) hb)⟩) hal.size (fun b _ hlt => hal.block b hlt (by simp))
        replace hR1 := row_high (row_high (row_low hR1 hK3.gw (show c.r < W.heap.size + 2 by omega)) hal (fun g e => by cases e)) hgrow (fun g e => (hown g e).1)
        have hS11 : ES c W W.heap.size (W.heap.size + 1) [.string ⟨#[]⟩, .int .i64 0, .slice none 0 0, .slice none 0 0, .slice none 0 0, .slice none 0 0, .slice none 0 0] [.string ⟨nm.toArray⟩, .int .i64 yr, .slice la1 xs1.length lc1, .slice ga (xs.length + 1) ca, .slice none 0 0, .slice none 0 0, .slice none 0 0] ak3 fk3 ek3 (w10.setCell ⟨W.heap.size + 1, 3, none⟩ (.slice ga (xs.length + 1) ca)) := hS10.sete 3 (.slice ga (xs.length + 1) ca)
        have hG10 := gs_step (b0 := wz.heap.size) hEl hEx hlo (fun g e => (hown g e).2) hgrow hat hown'
        have hG11 := gs_kept hG10 heb (gr_set w10 (W.heap.size + 1) 3 (.slice ga (xs.length + 1) ca))
        have hsz11 : Vx2.heap.size ≤ (w10.setCell ⟨W.heap.size + 1, 3, none⟩ (.slice ga (xs.length + 1) ca)).heap.size := Nat.le_trans hsz (Nat.le_trans hgrow.size (gr_set w10 (W.heap.size + 1) 3 (.slice ga (xs.length + 1) ca)).size)
        replace hR1 := row_low hR1 (gr_set w10 (W.heap.size + 1) 3 (.slice ga (xs.length + 1) ca)) (show W.heap.size + 1 < W.heap.size + 2 by omega)
        have hq9 := Hid.mk (hq8.out.step hlt (hpk1.bd (hpy.out.bd Xp.pure)))
        clear hS10 hEl ho hgrow hat hown' hEx hG10 hS9' hG9 hg1 hpk1 hq8 hKA hK3 hyrow hpy k0 k1 l6 lA hal
        go_wp2
        go_roundw
        case rel => exact ⟨i + 1, xs ++ [(s, ys)], _, _, _, _, by omega, by go_num, ⟨by rw [List.length_append, hxl.out]; rfl⟩, hS11, hsz11, hG11, hR1, hq9⟩
        case measure => simp [intOf]; omega
      · have hxlo := hxl.out
        have hAx := Hid.mk (hq8.out.done (by by_cases h : er8 = 0; exact .inl (by omega); exact .inr h) hxlo hin)
        have hrow : RowR eT wz (SB (W.heap.size + 2) wz.heap.size) xs la := by
          obtain ⟨a, cap, e, h⟩ := gs_done hG8
          simp only [Value.slice.injEq] at e
          rw [e.1]
          exact h.mo (fun b hlt hb => ⟨Nat.le_trans hVl3 hb, hlt⟩)
        clear hG8 hxlo hq8
        by_cases hlt : i < n
        · have hlt' : (i : Int) < (n : Int) := by omega
          have he8 : er8 ≠ 0 := fun e => hgo ⟨hlt, e⟩
          have he' : ((er8 : Int) == 0) = false := by simp; omega
          clear he8 hgo
          go_wp2_with fail
          go_meet
          exact ⟨rfl, xs, la, lc, at8, ft8, er8, hS8, hlo, hrow, hR1, hAx⟩
        · have hlt' : ¬ (i : Int) < (n : Int) := by omega
          clear hgo
          go_wp2_with fail
          go_meet
          exact ⟨rfl, xs, la, lc, at8, ft8, er8, hS8, hlo, hrow, hR1, hAx⟩
  case rest =>
  clear hS7 hsz7 hq7 hR1
  obtain ⟨rfl, xs2, la2, lc2, aE3, fE3, eE3, hE3, hLe, hR2, hR1, hpL2⟩ := hcut
  obtain ⟨Vx3, hVx⟩ : ∃ w, w = wc := ⟨_, rfl⟩
  rw [← hVx] at hE3 hLe hR2 hR1 ⊢
  clear hVx hrl heb hn2 hn0
  have hVl4 := Nat.le_trans hVl3 hLe
  replace hR1 := row_up hR1 hLe
  clear hLe
  have hc := list_any c Vx3 hE3.cs
  go_wp2_with (go_at_call 14; fail)
  refine hc.mono ?_
  rintro e wl ⟨n, at7, ft7, er7, rfl, hn2, hn0, hC, hg, hp⟩
  have hS7 := hE3.call hC hg
  have hsz7 := hg.size
  have hrl : c.r < Vx3.heap.size := by omega
  have heb : W.heap.size + 1 < Vx3.heap.size := by omega
  replace hR1 := row_low hR1 hg (show c.r < W.heap.size + 2 by omega)
  replace hR2 := row_low hR2 hg (show c.r < W.heap.size + 2 by omega)
  have hq7 := Lq.start (item := rGroup) hp hn0
  clear hc hC hg hE3 hp
  replace hq7 := Hid.mk hq7
  go_upto_block 8 with fail
  go_cut [4] (fun nv wx => nv = .int .i64 (n : Int) ∧ ∃ (xs : List (List UInt8 × Int)) (la : Option Addr) (lc a2 f2 e2 : Nat), ES c W W.heap.size (W.heap.size + 1) [.string ⟨#[]⟩, .int .i64 0, .slice none 0 0, .slice none 0 0, .slice none 0 0, .slice none 0 0, .slice none 0 0] [.string ⟨nm.toArray⟩, .int .i64 yr, .slice la1 xs1.length lc1, .slice la2 xs2.length lc2, .slice la xs.length lc, .slice none 0 0, .slice none 0 0] a2 f2 e2 wx ∧ Vx3.heap.size ≤ wx.heap.size ∧ RowR eG wx (SB (W.heap.size + 2) wx.heap.size) xs la ∧ RowR eO wx (SB (W.heap.size + 2) Vx3.heap.size) xs1 la1 ∧ RowR eT wx (SB (W.heap.size + 2) Vx3.heap.size) xs2 la2 ∧ Hid (Xp (rLst rGroup c.l aE3) fE3 eE3 a2 f2 e2 xs))
  case first =>
    go_wp2_with fail
    go_loopw [14] (fun iv wr => ∃ (i : Nat) (xs : List (List UInt8 × Int)) (lv : Value) (at2 ft2 er2 : Nat), i ≤ n ∧ iv = .int .i64 (i : Int) ∧ Hid (xs.length = i) ∧ ES c W W.heap.size (W.heap.size + 1) [.string ⟨#[]⟩, .int .i64 0, .slice none 0 0, .slice none 0 0, .slice none 0 0, .slice none 0 0, .slice none 0 0] [.string ⟨nm.toArray⟩, .int .i64 yr, .slice la1 xs1.length lc1, .slice la2 xs2.length lc2, lv, .slice none 0 0, .slice none 0 0] at2 ft2 er2 wr ∧ Vx3.heap.size ≤ wr.heap.size ∧ GS eG 99 Vx3.heap.size wr lv xs ∧ RowR eO wr (SB (W.heap.size + 2) Vx3.heap.size) xs1 la1 ∧ RowR eT wr (SB (W.heap.size + 2) Vx3.heap.size) xs2 la2 ∧ Hid (Lq (rGroup c.l) (rLst rGroup c.l aE3) n i fE3 eE3 at2 ft2 er2 xs)) (fun iv _ => n - (intOf iv).toNat)
    case atStart => exact ⟨0, [], .slice none 0 0, at7, ft7, er7, Nat.zero_le _, rfl, ⟨rfl⟩, hS7, hsz7, gs_nil _ _ _ _, hR1, hR2, hq7⟩
    case round =>
      clear hS7 hsz7 hq7 hR1 hR2
      obtain ⟨i, xs, lv, at8, ft8, er8, hin, rfl, hxl, hS8, hlo, hG8, hR1, hR2, hq8⟩ := hrel
      obtain ⟨wz, hwz⟩ : ∃ w, w = wr := ⟨_, rfl⟩
      rw [← hwz] at hS8 hlo hG8 hR1 hR2 ⊢
      clear hwz
      have c3 := hS8.cs.c3
      obtain ⟨la, lc, hlv⟩ : ∃ la lc, lv = .slice la xs.length lc := by obtain ⟨cs, ho, -⟩ := hG8; exact own_shapeG ho
      subst hlv
      by_cases hgo : i < n ∧ er8 = 0
      · obtain ⟨hlt, rfl⟩ := hgo
        have hlt' : (i : Int) < (n : Int) := by omega
        have hxl1 : xs.length ≤ 262144 := by have := hxl.out; omega
        have hown := fun g (e : (Value.slice la xs.length lc).ownBlock = some g) => hG8.choose_spec.1.lt g e
        have c3 : wz.cell? ⟨c.r, 3, none⟩ = some (.int .i64 0) := c3
        have hc := text_any c wz hS8.cs
        go_wp2_with (go_at_call 16; fail)
        clear c3
        refine hc.mono ?_
        rintro e u1 ⟨s, ak1, fk1, ek1, rfl, hC, hg1, hpk1⟩
        have hS9' := hS8.call hC hg1
        have hG9 := gs_kept hG8 hrl hg1
        have hs1 := hg1.size
        replace hR1 := row_low hR1 hg1 (show c.r < W.heap.size + 2 by omega)
        replace hR2 := row_low hR2 hg1 (show c.r < W.heap.size + 2 by omega)
        have hlo' := Nat.le_trans hlo hs1
        clear hc hC
        have hSd := hS9'.drew
        have hcall := int_any c u1.drew hSd.cs
        obtain ⟨i0, hi, hz0, hz1, hz2⟩ := info_parts info_group
        have s4 : u1.drew.cell? ⟨W.heap.size + 1, 4, none⟩ = some (.slice la xs.length lc) := hSd.ex.2.1 4 (show 4 < 7 by decide)
        have hGd := gs_kept hG9 hrl (⟨rfl, rfl, rfl, Nat.le_refl _, fun _ _ _ => rfl⟩ : u1.grownBy u1.drew (some c.r))
        go_wp2_with fail
        go_region_law
          (first
            | (go_simp; go_at_call 18; refine hcall.mono ?_; rintro e w9 ⟨z, at9, ft9, er9, rfl, rgz, hC9, hg9, hp9⟩; have hS9 := hSd.call hC9 hg9; have s9 : w9.cell? ⟨W.heap.size + 1, 4, none⟩ = some (.slice la xs.length lc) := hS9.ex.2.1 4 (show 4 < 7 by decide); have hGA := gs_alloc (gs_kept hGd hrl hg9) (.cells #[.string ⟨s.toArray⟩, .int .i64 z] 99); have hSA := hS9.alloc (.cells #[.string ⟨s.toArray⟩, .int .i64 z] 99); have sA : (w9.alloc (.cells #[.string ⟨s.toArray⟩, .int .i64 z] 99)).cell? ⟨W.heap.size + 1, 4, none⟩ = some (.slice la xs.length lc) := hSA.ex.2.1 4 (show 4 < 7 by decide); obtain ⟨cs, ho, hEl⟩ := hGA; have hsz : Vx3.heap.size ≤ (w9.alloc (.cells #[.string ⟨s.toArray⟩, .int .i64 z] 99)).heap.size := Nat.le_trans hlo' (Nat.le_trans hg9.size (World.grownBy_alloc w9 (.cells #[.string ⟨s.toArray⟩, .int .i64 z] 99) none).size))
            | (refine step_append_g (P := Try.prog) _ rfl _ _ 25 rfl Vx3.heap.size 99 i0 _ 2 24 Try.underlying25 hi hz0 hz1 hz2 rfl (by decide) _ xs.length cs rfl ho ⟨w9.heap.size, 0, none⟩ 1 1 [.string ⟨s.toArray⟩, .int .i64 z] rfl rfl (lit_at w9 _ _) (by simp [Value.oneCell']) (by unfold maxLen; omega) (by omega) hsz ?_; intro v' w10 hown' hgrow hat; obtain ⟨ga, ca, rfl⟩ := own_shapeG hown'; have hne10 : some (W.heap.size + 1) ≠ (Value.slice la xs.length lc).ownBlock := (fun e => by have := (hown _ e.symm).1; have := heb; omega); have s10 : w10.cell? ⟨W.heap.size + 1, 4, none⟩ = some (.slice la xs.length lc) := (gr_cell hgrow hSA.ex.1 hne10 4).trans sA; have sf10 : w10.frozen? ⟨W.heap.size + 1, 4, none⟩ = false := (gr_frozen hgrow hSA.ex.1 hne10 4).trans (hSA.ex.2.2 4)))
        all_goals
          have hS10 : ES c W W.heap.size (W.heap.size + 1) [.string ⟨#[]⟩, .int .i64 0, .slice none 0 0, .slice none 0 0, .slice none 0 0, .slice none 0 0, .slice none 0 0] [.string ⟨nm.toArray⟩, .int .i64 yr, .slice la1 xs1.length lc1, .slice la2 xs2.length lc2, .slice la xs.length lc, .slice none 0 0, .slice none 0 0] at9 ft9 er9 w10 := hSA.other hgrow (fun g e => by have h1 := (hown g e).1; omega)
          have hal := World.grownBy_alloc w9 (.cells #[.string ⟨s.toArray⟩, .int .i64 z] 99) none
          have hEx : eG.E (w9.alloc (.cells #[.string ⟨s.toArray⟩, .int .i64 z] 99)) (fun b => wz.heap.size ≤ b) (s, z) [.string ⟨s.toArray⟩, .int .i64 z] := ⟨rfl, rgz⟩
          replace hR1 := row_high (row_high (row_low (row_low hR1 (⟨rfl, rfl, rfl, Nat.le_refl _, fun _ _ _ => rfl⟩ : u1.grownBy u1.drew (some c.r)) (show c.r < W.heap.size + 2 by omega)) hg9 (show c.r < W.heap.size + 2 by omega)) hal (fun g e => by cases e)) hgrow (fun g e => (hown g e).1)
          replace hR2 := row_high (row_high (row_low (row_low hR2 (⟨rfl, rfl, rfl, Nat.le_refl _, fun _ _ _ => rfl⟩ : u1.grownBy u1.drew (some c.r)) (show c.r < W.heap.size + 2 by omega)) hg9 (show c.r < W.heap.size + 2 by omega)) hal (fun g e => by cases e)) hgrow (fun g e => (hown g e).1)
          have hS11 : ES c W W.heap.size (W.heap.size + 1) [.string ⟨#[]⟩, .int .i64 0, .slice none 0 0, .slice none 0 0, .slice none 0 0, .slice none 0 0, .slice none 0 0] [.string ⟨nm.toArray⟩, .int .i64 yr, .slice la1 xs1.length lc1, .slice la2 xs2.length lc2, .slice ga (xs.length + 1) ca, .slice none 0 0, .slice none 0 0] at9 ft9 er9 (w10.setCell ⟨W.heap.size + 1, 4, none⟩ (.slice ga (xs.length + 1) ca)) := hS10.sete 4 (.slice ga (xs.length + 1) ca)
          have hG10 := gs_step (b0 := wz.heap.size) hEl hEx hlo (fun g e => (hown g e).2) hgrow hat hown'
          have hG11 := gs_kept hG10 heb (gr_set w10 (W.heap.size + 1) 4 (.slice ga (xs.length + 1) ca))
          have hsz11 : Vx3.heap.size ≤ (w10.setCell ⟨W.heap.size + 1, 4, none⟩ (.slice ga (xs.length + 1) ca)).heap.size := Nat.le_trans hsz (Nat.le_trans hgrow.size (gr_set w10 (W.heap.size + 1) 4 (.slice ga (xs.length + 1) ca)).size)
          replace hR1 := row_low hR1 (gr_set w10 (W.heap.size + 1) 4 (.slice ga (xs.length + 1) ca)) (show W.heap.size + 1 < W.heap.size + 2 by omega)
          replace hR2 := row_low hR2 (gr_set w10 (W.heap.size + 1) 4 (.slice ga (xs.length + 1) ca)) (show W.heap.size + 1 < W.heap.size + 2 by omega)
          have hq9 := Hid.mk (hq8.out.step hlt (hpk1.bd (hp9.bd Xp.pure)))
          clear hS10 hEl ho hgrow hat hown' hEx hG10 hS9' hG9 hg1 hpk1 hq8 hSA hS9 hSd hcall hC9 hg9 hp9 hGd sA s9 s4 hS8 hG8 hal
          go_wp2
          go_roundw
          case rel => exact ⟨i + 1, xs ++ [(s, z)], _, _, _, _, by omega, by go_num, ⟨by rw [List.length_append, hxl.out]; rfl⟩, hS11, hsz11, hG11, hR1, hR2, hq9⟩
          case measure => simp [intOf]; omega
      · have hxlo := hxl.out
        have hAx := Hid.mk (hq8.out.done (by by_cases h : er8 = 0; exact .inl (by omega); exact .inr h) hxlo hin)
        have hrow : RowR eG wz (SB (W.heap.size + 2) wz.heap.size) xs la := by
          obtain ⟨a, cap, e, h⟩ := gs_done hG8
          simp only [Value.slice.injEq] at e
          rw [e.1]
          exact h.mo (fun b hlt hb => ⟨Nat.le_trans hVl4 hb, hlt⟩)
        clear hG8 hxlo hq8
        by_cases hlt : i < n
        · have hlt' : (i : Int) < (n : Int) := by omega
          have he8 : er8 ≠ 0 := fun e => hgo ⟨hlt, e⟩
          have he' : ((er8 : Int) == 0) = false := by simp; omega
          clear he8 hgo
          go_wp2_with fail
          go_meet
          exact ⟨rfl, xs, la, lc, at8, ft8, er8, hS8, hlo, hrow, hR1, hR2, hAx⟩
        · have hlt' : ¬ (i : Int) < (n : Int) := by omega
          clear hgo
          go_wp2_with fail
          go_meet
          exact ⟨rfl, xs, la, lc, at8, ft8, er8, hS8, hlo, hrow, hR1, hR2, hAx⟩
  case rest =>
  clear hS7 hsz7 hq7 hR1 hR2
  obtain ⟨rfl, xs3, la3, lc3, aE4, fE4, eE4, hE4, hLe, hR3, hR1, hR2, hpL3⟩ := hcut
  obtain ⟨Vx4, hVx⟩ : ∃ w, w = wc := ⟨_, rfl⟩
  rw [← hVx] at hE4 hLe hR3 hR1 hR2 ⊢
  clear hVx hrl heb hn2 hn0
  have hVl5 := Nat.le_trans hVl4 hLe
  replace hR1 := row_up hR1 hLe
  replace hR2 := row_up hR2 hLe
  clear hLe
  have e0 : Vx4.cell? ⟨W.heap.size + 1, 0, none⟩ = some (.string ⟨nm.toArray⟩) := hE4.ex.2.1 0 (show 0 < 7 by decide)
  have e1 : Vx4.cell? ⟨W.heap.size + 1, 1, none⟩ = some (.int .i64 yr) := hE4.ex.2.1 1 (show 1 < 7 by decide)
  have e2 : Vx4.cell? ⟨W.heap.size + 1, 2, none⟩ = some (.slice la1 xs1.length lc1) := hE4.ex.2.1 2 (show 2 < 7 by decide)
  have e3 : Vx4.cell? ⟨W.heap.size + 1, 3, none⟩ = some (.slice la2 xs2.length lc2) := hE4.ex.2.1 3 (show 3 < 7 by decide)
  have e4 : Vx4.cell? ⟨W.heap.size + 1, 4, none⟩ = some (.slice la3 xs3.length lc3) := hE4.ex.2.1 4 (show 4 < 7 by decide)
  have e5 : Vx4.cell? ⟨W.heap.size + 1, 5, none⟩ = some (.slice none 0 0) := hE4.ex.2.1 5 (show 5 < 7 by decide)
  have e6 : Vx4.cell? ⟨W.heap.size + 1, 6, none⟩ = some (.slice none 0 0) := hE4.ex.2.1 6 (show 6 < 7 by decide)
  have r0 : Vx4.cell? ⟨W.heap.size, 0, none⟩ = some (.string ⟨#[]⟩) := hE4.rx.2.1 0 (show 0 < 7 by decide)
  have rf0 : Vx4.frozen? ⟨W.heap.size, 0, none⟩ = false := hE4.rx.2.2 0
  have hr0 := hE4.setr 0 (.string ⟨nm.toArray⟩)
  obtain ⟨Y0, hY0⟩ : ∃ Y, Vx4.setCell ⟨W.heap.size, 0, none⟩ (.string ⟨nm.toArray⟩) = Y := ⟨_, rfl⟩
  have hr0 : ES c W W.heap.size (W.heap.size + 1) [.string ⟨nm.toArray⟩, .int .i64 0, .slice none 0 0, .slice none 0 0, .slice none 0 0, .slice none 0 0, .slice none 0 0] [.string ⟨nm.toArray⟩, .int .i64 yr, .slice la1 xs1.length lc1, .slice la2 xs2.length lc2, .slice la3 xs3.length lc3, .slice none 0 0, .slice none 0 0] aE4 fE4 eE4 Y0 := by rw [← hY0]; exact hr0
  have r1 : Y0.cell? ⟨W.heap.size, 1, none⟩ = some (.int .i64 0) := hr0.rx.2.1 1 (show 1 < 7 by decide)
  have rf1 : Y0.frozen? ⟨W.heap.size, 1, none⟩ = false := hr0.rx.2.2 1
  have hr1 := hr0.setr 1 (.int .i64 yr)
  obtain ⟨Y1, hY1⟩ : ∃ Y, Y0.setCell ⟨W.heap.size, 1, none⟩ (.int .i64 yr) = Y := ⟨_, rfl⟩
  have hr1 : ES c W W.heap.size (W.heap.size + 1) [.string ⟨nm.toArray⟩, .int .i64 yr, .slice none 0 0, .slice none 0 0, .slice none 0 0, .slice none 0 0, .slice none 0 0] [.string ⟨nm.toArray⟩, .int .i64 yr, .slice la1 xs1.length lc1, .slice la2 xs2.length lc2, .slice la3 xs3.length lc3, .slice none 0 0, .slice none 0 0] aE4 fE4 eE4 Y1 := by rw [← hY1]; exact hr1
  have r2 : Y1.cell? ⟨W.heap.size, 2, none⟩ = some (.slice none 0 0) := hr1.rx.2.1 2 (show 2 < 7 by decide)
  have rf2 : Y1.frozen? ⟨W.heap.size, 2, none⟩ = false := hr1.rx.2.2 2
  have hr2 := hr1.setr 2 (.slice la1 xs1.length lc1)
  obtain ⟨Y2, hY2⟩ : ∃ Y, Y1.setCell ⟨W.heap.size, 2, none⟩ (.slice la1 xs1.length lc1) = Y := ⟨_, rfl⟩
  have hr2 : ES c W W.heap.size (W.heap.size + 1) [.string ⟨nm.toArray⟩, .int .i64 yr, .slice la1 xs1.length lc1, .slice none 0 0, .slice none 0 0, .slice none 0 0, .slice none 0 0] [.string ⟨nm.toArray⟩, .int .i64 yr, .slice la1 xs1.length lc1, .slice la2 xs2.length lc2, .slice la3 xs3.length lc3, .slice none 0 0, .slice none 0 0] aE4 fE4 eE4 Y2 := by rw [← hY2]; exact hr2
  have r3 : Y2.cell? ⟨W.heap.size, 3, none⟩ = some (.slice none 0 0) := hr2.rx.2.1 3 (show 3 < 7 by decide)
  have rf3 : Y2.frozen? ⟨W.heap.size, 3, none⟩ = false := hr2.rx.2.2 3
  have hr3 := hr2.setr 3 (.slice la2 xs2.length lc2)
  obtain ⟨Y3, hY3⟩ : ∃ Y, Y2.setCell ⟨W.heap.size, 3, none⟩ (.slice la2 xs2.length lc2) = Y := ⟨_, rfl⟩
  have hr3 : ES c W W.heap.size (W.heap.size + 1) [.string ⟨nm.toArray⟩, .int .i64 yr, .slice la1 xs1.length lc1, .slice la2 xs2.length lc2, .slice none 0 0, .slice none 0 0, .slice none 0 0] [.string ⟨nm.toArray⟩, .int .i64 yr, .slice la1 xs1.length lc1, .slice la2 xs2.length lc2, .slice la3 xs3.length lc3, .slice none 0 0, .slice none 0 0] aE4 fE4 eE4 Y3 := by rw [← hY3]; exact hr3
  have r4 : Y3.cell? ⟨W.heap.size, 4, none⟩ = some (.slice none 0 0) := hr3.rx.2.1 4 (show 4 < 7 by decide)
  have rf4 : Y3.frozen? ⟨W.heap.size, 4, none⟩ = false := hr3.rx.2.2 4
  have hr4 := hr3.setr 4 (.slice la3 xs3.length lc3)
  obtain ⟨Y4, hY4⟩ : ∃ Y, Y3.setCell ⟨W.heap.size, 4, none⟩ (.slice la3 xs3.length lc3) = Y := ⟨_, rfl⟩
  have hr4 : ES c W W.heap.size (W.heap.size + 1) [.string ⟨nm.toArray⟩, .int .i64 yr, .slice la1 xs1.length lc1, .slice la2 xs2.length lc2, .slice la3 xs3.length lc3, .slice none 0 0, .slice none 0 0] [.string ⟨nm.toArray⟩, .int .i64 yr, .slice la1 xs1.length lc1, .slice la2 xs2.length lc2, .slice la3 xs3.length lc3, .slice none 0 0, .slice none 0 0] aE4 fE4 eE4 Y4 := by rw [← hY4]; exact hr4
  have r5 : Y4.cell? ⟨W.heap.size, 5, none⟩ = some (.slice none 0 0) := hr4.rx.2.1 5 (show 5 < 7 by decide)
  have rf5 : Y4.frozen? ⟨W.heap.size, 5, none⟩ = false := hr4.rx.2.2 5
  have hr5 := hr4.setr 5 (.slice none 0 0)
  obtain ⟨Y5, hY5⟩ : ∃ Y, Y4.setCell ⟨W.heap.size, 5, none⟩ (.slice none 0 0) = Y := ⟨_, rfl⟩
  have hr5 : ES c W W.heap.size (W.heap.size + 1) [.string ⟨nm.toArray⟩, .int .i64 yr, .slice la1 xs1.length lc1, .slice la2 xs2.length lc2, .slice la3 xs3.length lc3, .slice none 0 0, .slice none 0 0] [.string ⟨nm.toArray⟩, .int .i64 yr, .slice la1 xs1.length lc1, .slice la2 xs2.length lc2, .slice la3 xs3.length lc3, .slice none 0 0, .slice none 0 0] aE4 fE4 eE4 Y5 := by rw [← hY5]; exact hr5
  have r6 : Y5.cell? ⟨W.heap.size, 6, none⟩ = some (.slice none 0 0) := hr5.rx.2.1 6 (show 6 < 7 by decide)
  have rf6 : Y5.frozen? ⟨W.heap.size, 6, none⟩ = false := hr5.rx.2.2 6
  have hr6 := hr5.setr 6 (.slice none 0 0)
  obtain ⟨Y6, hY6⟩ : ∃ Y, Y5.setCell ⟨W.heap.size, 6, none⟩ (.slice none 0 0) = Y := ⟨_, rfl⟩
  have hr6 : ES c W W.heap.size (W.heap.size + 1) [.string ⟨nm.toArray⟩, .int .i64 yr, .slice la1 xs1.length lc1, .slice la2 xs2.length lc2, .slice la3 xs3.length lc3, .slice none 0 0, .slice none 0 0] [.string ⟨nm.toArray⟩, .int .i64 yr, .slice la1 xs1.length lc1, .slice la2 xs2.length lc2, .slice la3 xs3.length lc3, .slice none 0 0, .slice none 0 0] aE4 fE4 eE4 Y6 := by rw [← hY6]; exact hr6
  have q0 : Y6.cell? ⟨W.heap.size, 0, none⟩ = some (.string ⟨nm.toArray⟩) := hr6.rx.2.1 0 (show 0 < 7 by decide)
  have q1 : Y6.cell? ⟨W.heap.size, 1, none⟩ = some (.int .i64 yr) := hr6.rx.2.1 1 (show 1 < 7 by decide)
  have q2 : Y6.cell? ⟨W.heap.size, 2, none⟩ = some (.slice la1 xs1.length lc1) := hr6.rx.2.1 2 (show 2 < 7 by decide)
  have q3 : Y6.cell? ⟨W.heap.size, 3, none⟩ = some (.slice la2 xs2.length lc2) := hr6.rx.2.1 3 (show 3 < 7 by decide)
  have q4 : Y6.cell? ⟨W.heap.size, 4, none⟩ = some (.slice la3 xs3.length lc3) := hr6.rx.2.1 4 (show 4 < 7 by decide)
  have q5 : Y6.cell? ⟨W.heap.size, 5, none⟩ = some (.slice none 0 0) := hr6.rx.2.1 5 (show 5 < 7 by decide)
  have q6 : Y6.cell? ⟨W.heap.size, 6, none⟩ = some (.slice none 0 0) := hr6.rx.2.1 6 (show 6 < 7 by decide)
  have hgY : Vx4.grownBy Y6 (some (W.heap.size)) := by rw [← hY6, ← hY5, ← hY4, ← hY3, ← hY2, ← hY1, ← hY0]; exact (((((((gr_set _ _ _ _).trans (gr_set _ _ _ _)).trans (gr_set _ _ _ _)).trans (gr_set _ _ _ _)).trans (gr_set _ _ _ _)).trans (gr_set _ _ _ _)).trans (gr_set _ _ _ _))
  have hfin : Xd rHeads VH c at_ ft er W (.returned (.agg #[.string ⟨nm.toArray⟩, .int .i64 yr, .slice la1 xs1.length lc1, .slice la2 xs2.length lc2, .slice la3 xs3.length lc3, .slice none 0 0, .slice none 0 0])) Y6 := ⟨⟨nm, yr, xs1, xs2, xs3, [], []⟩, _, _, _, _, rfl, ⟨la1, la2, la3, lc1, lc2, lc3, rfl, rgy, (row_low hR1 hgY (show W.heap.size < W.heap.size + 2 by omega)).mo (fun b _ hb => Nat.le_trans (Nat.le_add_right _ 2) hb.1), (row_low hR2 hgY (show W.heap.size < W.heap.size + 2 by omega)).mo (fun b _ hb => Nat.le_trans (Nat.le_add_right _ 2) hb.1), (row_low hR3 hgY (show W.heap.size < W.heap.size + 2 by omega)).mo (fun b _ hb => Nat.le_trans (Nat.le_add_right _ 2) hb.1)⟩, hr6.cs, hr6.gr, hp1.bd (hp2.bd (hpL1.out.bd (hpL2.out.bd (hpL3.out.bd Xp.pure))))⟩
  clear hr0 hr1 hr2 hr3 hr4 hr5 hr6 hgY hR1 hR2 hR3 hp1 hp2 hpL1 hpL2 hpL3
  go_wp2
  exact bodyPost_ret (v := .agg #[.string ⟨nm.toArray⟩, .int .i64 yr, .slice la1 xs1.length lc1, .slice la2 xs2.length lc2, .slice la3 xs3.length lc3, .slice none 0 0, .slice none 0 0]) (by simp [results, Try.results13, go_sem, q0, q1, q2, q3, q4, q5, q6]) rfl hfin

end Go.Proofs.Ytjgngmmepheioaa.G
