import Derived.Test.YthbojlbgjmecoaaGreatDlC
import Derived.Test.YthbojlbgjmecoaaGreatDjK
import Derived.Maps.OwnSet
import Derived.Maps.AppendAt
/- THE DISK IN MEMORY. -/
namespace Go.Proofs.YthbojlbgjmecoaaGreat.DJ
open Go.RowKit

/-- Only blocks of S may have changed. -/
structure GrS (S : Nat → Prop) (W W' : World) : Prop where
  os : W'.os = W.os
  tape : W'.tape = W.tape
  output : W'.output = W.output
  size : W.heap.size ≤ W'.heap.size
  block : ∀ k, k < W.heap.size → ¬ S k → W'.heap[k]? = W.heap[k]?
theorem GrS.of_grown {S : Nat → Prop} {W W' : World} {b : Nat} (h : W.grownBy W' (some b)) (hb : S b) : GrS S W W' := ⟨h.os, h.tape, h.output, h.size, fun k hk hn => h.block k hk (fun e => hn (by rw [Option.some.inj e]; exact hb))⟩
theorem GrS.of_grown' {S : Nat → Prop} {W W' : World} {b : Option Nat} (h : W.grownBy W' b) (hb : ∀ k, b = some k → S k) : GrS S W W' := ⟨h.os, h.tape, h.output, h.size, fun k hk hn => h.block k hk (fun e => hn (hb k e.symm))⟩
theorem GrS.of_below {S : Nat → Prop} {W W' : World} (h : Below W.heap.size W W') : GrS S W W' := ⟨h.os, h.tape, h.output, h.size, fun k hk _ => h.block k hk⟩
theorem GrS.refl (S : Nat → Prop) (W : World) : GrS S W W := .of_below (Below.refl _ _)
theorem GrS.trans {S : Nat → Prop} {W X Y : World} (h : GrS S W X) (h' : GrS S X Y) : GrS S W Y := ⟨h'.os.trans h.os, h'.tape.trans h.tape, h'.output.trans h.output, Nat.le_trans h.size h'.size, fun k hk hn => (h'.block k (Nat.lt_of_lt_of_le hk h.size) hn).trans (h.block k hk hn)⟩
theorem GrS.mono {S T : Nat → Prop} {W W' : World} (h : GrS S W W') (hs : ∀ k, k < W.heap.size → S k → T k) : GrS T W W' := ⟨h.os, h.tape, h.output, h.size, fun k hk hn => h.block k hk (fun e => hn (hs k hk e))⟩
theorem GrS.cell {S : Nat → Prop} {W W' : World} (h : GrS S W W') {b o : Nat} (hl : b < W.heap.size) (hn : ¬ S b) : W'.cell? ⟨b, o, none⟩ = W.cell? ⟨b, o, none⟩ := by
  have := h.block b hl hn
  simp only [World.cell?, this]
theorem GrS.below {S : Nat → Prop} {W W' : World} (h : GrS S W W') {lo : Nat} (hl : lo ≤ W.heap.size) (hs : ∀ k, S k → lo ≤ k) : Below lo W W' := ⟨h.os, h.tape, h.output, h.size, fun k hk => h.block k (Nat.lt_of_lt_of_le hk hl) (fun e => absurd (hs k e) (by omega))⟩
theorem GrS.own {S : Nat → Prop} {W W' : World} (h : GrS S W W') {base n size : Nat} {e : TypeId} {v : Value} {xs : List Value} (ho : W.ownsRow base e size v n xs) (hn : ∀ g, v.ownBlock = some g → ¬ S g) : W'.ownsRow base e size v n xs := by
  obtain ⟨q1, q2 | ⟨g, cap, cur, rfl, hb, r, rest⟩⟩ := ho
  · exact ⟨q1, .inl q2⟩
  · exact ⟨q1, .inr ⟨g, cap, cur, rfl, hb, (h.block g (Array.getElem?_eq_some_iff.1 r).1 (hn g rfl)).trans r, rest⟩⟩
theorem GrS.byts {S : Nat → Prop} {W W' : World} (h : GrS S W W') {a : Option Addr} {bs : List Nat} (ho : Byts W a bs) (hn : ∀ p, a = some p → ¬ S p.block) : Byts W' a bs := by
  obtain ⟨h0, h1 | ⟨b, off, rfl, hlt, hc⟩⟩ := ho
  · exact ⟨h0, .inl h1⟩
  · exact ⟨h0, .inr ⟨b, off, rfl, Nat.lt_of_lt_of_le hlt h.size, fun i hi => (h.cell hlt (hn _ rfl)).trans (hc i hi)⟩⟩

/-- How a file reads in the disk's map: its block's number. -/
def bR : Value → Option (DataW Nat × List MemPlace)
  | .pointer none => some (.nil, [])
  | .pointer (some ⟨b, 0, none⟩) => some (.held b, [])
  | _ => none
theorem bR_held {v : Value} {b : Nat} {ps : List MemPlace} (h : bR v = some (.held b, ps)) : v = .pointer (some ⟨b, 0, none⟩) := by
  unfold bR at h
  split at h
  · simp at h
  · simp at h
    rw [h.1]
  · cases h
theorem bR_nil {v : Value} {ps : List MemPlace} (h : bR v = some (.nil, ps)) : v = .pointer none := by
  unfold bR at h
  split at h
  · rfl
  · simp at h
  · cases h
def kl (s : ByteArray) : Lit := .string s.data.toList
theorem kl_inj {s t : ByteArray} (h : kl s = kl t) : s = t := by
  simp only [kl, Lit.string.injEq] at h
  exact ByteArray.ext (Array.toList_inj.1 h)
theorem kl_ne {s t : ByteArray} (h : s ≠ t) : kl s ≠ kl t := fun e => h (kl_inj e)
theorem kl_key (s : ByteArray) : WideAt.IsKeyLit (kl s) := trivial
theorem strB_data (l : List Nat) : (strB l).data.toList = u8 l := by
  simp only [strB, strOfNums_data, List.map_map, u8]
  refine List.map_congr_left fun n _ => ?_
  simp only [Function.comp, Int.toNat_natCast]
theorem strB_size (l : List Nat) : (strB l).size = l.length := by
  have := congrArg List.length (strB_data l)
  rw [u8, List.length_map] at this
  exact (Array.length_toList (xs := (strB l).data)).symm.trans this
theorem named_lt {s : List Nat} (h : named s) : ∀ c ∈ s, c < 256 := fun c hc => by rcases h.1 c hc with h | h | h <;> omega

/-- The disk's map holds just these files. -/
structure Ties (D : DataW Nat) (fs : List Fl) (fb : List Nat → Nat) : Prop where
  tidy : Go.Maps.Tidy D
  size : Go.Maps.size D = fs.length
  hasK : ∀ s : ByteArray, s.size ≤ maxLen → (Go.Maps.has D (kl s) = true ↔ ∃ f ∈ fs, strB f.nm = s)
  atK : ∀ f ∈ fs, D.atKey (kl (strB f.nm)) .nil = .held (fb f.nm)

/-- A file's block and its bytes. -/
structure FileAt (W : World) (lo fb : Nat) (v : Value) (f : Fl) : Prop where
  row : W.heap[fb]? = some (.cells #[v, .int .i64 (f.sure : Int)] 100 (0, 0))
  dat : W.ownsRow lo 5 1 v f.dat.length (bysV f.dat)
theorem FileAt.grS {S : Nat → Prop} {W W' : World} {lo fb : Nat} {v : Value} {f : Fl} (h : FileAt W lo fb v f) (hg : GrS S W W') (h1 : ¬ S fb) (h2 : ∀ g, v.ownBlock = some g → ¬ S g) : FileAt W' lo fb v f :=
  ⟨(hg.block fb (Array.getElem?_eq_some_iff.1 h.row).1 h1).trans h.row, hg.own h.dat h2⟩

/-- The disk's own row. -/
def dkRow (mb : Nat) (d : Dk) : Obj := .cells #[.map (some mb), .bool d.units.isSome, .int .i64 (d.units.getD 0 : Nat), .int .i64 (d.after : Int), .int .i64 (d.calls : Int), .bool d.down] 98 (0, 0)

/-- The rigs' numbers; none while it is down. -/
structure Rigs (d : Dk) : Prop where
  un : ∀ u, d.units = some u → u ≤ 9223372036854775807
  af : d.after ≤ 9223372036854775807
  ca : d.calls ≤ 9223372036854775807
  dn : d.down = true → d.units = none ∧ d.after = 0 ∧ d.calls = 0

/-- Where a disk's parts lie. -/
structure Lay (W : World) (lo : Nat) (S : Nat → Prop) (db : Nat) (d : Dk) (mb : Nat) (D : DataW Nat) (fb : List Nat → Nat) (vv : List Nat → Value) : Prop where
  ok : Ok d
  rigs : Rigs d
  row : W.heap[db]? = some (dkRow mb d)
  map : W.ownsMap Tryz.prog 9 bR mb d.fs.length D
  ties : Ties D d.fs fb
  fil : ∀ f ∈ d.fs, FileAt W lo (fb f.nm) (vv f.nm) f
  Sdb : S db
  Smb : S mb
  Sfb : ∀ f ∈ d.fs, S (fb f.nm)
  Svv : ∀ f ∈ d.fs, ∀ g, (vv f.nm).ownBlock = some g → S g
  low : ∀ k, S k → lo ≤ k
  hi : ∀ k, S k → k < W.heap.size
  dfb : ∀ f ∈ d.fs, ∀ g ∈ d.fs, f.nm ≠ g.nm → fb f.nm ≠ fb g.nm
  dvv : ∀ f ∈ d.fs, ∀ g ∈ d.fs, f.nm ≠ g.nm → ∀ k, (vv f.nm).ownBlock = some k → (vv g.nm).ownBlock ≠ some k
def DiskAt (W : World) (lo : Nat) (S : Nat → Prop) (db : Nat) (d : Dk) : Prop := ∃ mb D fb vv, Lay W lo S db d mb D fb vv

theorem ownsMap_grS {S : Nat → Prop} {P : Program} {k : TypeId} {R : Value → Option (DataW Nat × List MemPlace)} {b n : Nat} {D : DataW Nat} {W W' : World} (h : W.ownsMap P k R b n D) (hg : GrS S W W') (hb : ¬ S b) : W'.ownsMap P k R b n D := by
  obtain ⟨es, clock, h1, h2⟩ := h
  exact ⟨es, clock, (hg.block b (Array.getElem?_eq_some_iff.1 h1).1 hb).trans h1, h2⟩
theorem Lay.grS {T S : Nat → Prop} {W W' : World} {lo db : Nat} {d : Dk} {mb : Nat} {D : DataW Nat} {fb : List Nat → Nat} {vv : List Nat → Value} (h : Lay W lo S db d mb D fb vv) (hg : GrS T W W') (hd : ∀ k, S k → ¬ T k) : Lay W' lo S db d mb D fb vv :=
  { h with
    row := (hg.block db (Array.getElem?_eq_some_iff.1 h.row).1 (hd _ h.Sdb)).trans h.row
    map := ownsMap_grS h.map hg (hd _ h.Smb)
    fil := fun f hf => (h.fil f hf).grS hg (hd _ (h.Sfb f hf)) (fun g e => hd _ (h.Svv f hf g e))
    hi := fun k hk => Nat.lt_of_lt_of_le (h.hi k hk) hg.size }
theorem DiskAt.grS {T S : Nat → Prop} {W W' : World} {lo db : Nat} {d : Dk} (h : DiskAt W lo S db d) (hg : GrS T W W') (hd : ∀ k, S k → ¬ T k) : DiskAt W' lo S db d := by
  obtain ⟨mb, D, fb, vv, h⟩ := h
  exact ⟨mb, D, fb, vv, h.grS hg hd⟩
theorem DiskAt.later {S : Nat → Prop} {W W' : World} {lo db : Nat} {d : Dk} (h : DiskAt W lo S db d) (hb : Below W.heap.size W W') : DiskAt W' lo S db d := h.grS (T := fun _ => False) (.of_below hb) (fun _ _ h => h)
theorem DiskAt.lt {S : Nat → Prop} {W : World} {lo db : Nat} {d : Dk} (h : DiskAt W lo S db d) : db < W.heap.size := by
  obtain ⟨mb, D, fb, vv, h⟩ := h
  exact h.hi _ h.Sdb

/-- A disk has moved on: its blocks are the old ones and new ones; no other has changed. -/
structure Dv (S : Nat → Prop) (W : World) (S' : Nat → Prop) (W' : World) : Prop where
  gr : GrS S W W'
  sub : ∀ k, S' k → S k ∨ W.heap.size ≤ k
theorem Dv.refl (S : Nat → Prop) (W : World) : Dv S W S W := ⟨.refl _ _, fun _ h => .inl h⟩
theorem Dv.below {S : Nat → Prop} {W W' : World} (h : Below W.heap.size W W') : Dv S W S W' := ⟨.of_below h, fun _ h => .inl h⟩
theorem Dv.trans {S S' S'' : Nat → Prop} {W X Y : World} (h : Dv S W S' X) (h' : Dv S' X S'' Y) : Dv S W S'' Y :=
  ⟨⟨h'.gr.os.trans h.gr.os, h'.gr.tape.trans h.gr.tape, h'.gr.output.trans h.gr.output, Nat.le_trans h.gr.size h'.gr.size, fun k hk hn => (h'.gr.block k (Nat.lt_of_lt_of_le hk h.gr.size) (fun e => by
      rcases h.sub k e with e | e
      · exact hn e
      · omega)).trans (h.gr.block k hk hn)⟩,
   fun k hk => by
    rcases h'.sub k hk with e | e
    · exact h.sub k e
    · exact .inr (Nat.le_trans h.gr.size e)⟩
end Go.Proofs.YthbojlbgjmecoaaGreat.DJ
