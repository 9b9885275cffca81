import Derived.Test.YthnmjafoplfikaaGreatDoorProg
import Derived.WalkKit
/- A GREAT REGION THAT DRAWS ITS ORDER, WHOSE END DOES NOT HANG ON IT. No program. -/
namespace Go.Proofs.YthnmjafoplfikaaGreatDoor
open Go.RowKit

theorem getD_on (l : Array Bool) (i j : Nat) (d : Bool) (hi : i < l.size) : (l.setIfInBounds i true).getD j d = if i = j then true else l.getD j d := by
  rw [Array.getD_eq_getD_getElem?, Array.getD_eq_getD_getElem?, Array.getElem?_setIfInBounds]
  by_cases h : i = j
  · rw [if_pos h, if_pos h, if_pos hi]; rfl
  · rw [if_neg h, if_neg h]
theorem mem_ready {ops : Array Oper} {l : Array Bool} {i : Nat} : i ∈ Region.ready .any ops l ↔ i < ops.size ∧ l.getD i true = false ∧ ∃ o, ops[i]? = some o ∧ ∀ e ∈ o.after, Region.binds .any e = true → l.getD e.on false = true := by
  unfold Region.ready
  rw [List.mem_filter, List.mem_range]
  constructor
  · rintro ⟨h1, h2⟩
    have ho : ops[i]? = some ops[i] := Array.getElem?_eq_getElem h1
    rw [ho, Bool.and_eq_true, Option.map_some, Option.getD_some, Array.all_eq_true'] at h2
    refine ⟨h1, by simpa using h2.1, _, ho, fun e he hb => ?_⟩
    have := h2.2 e he
    rw [hb] at this
    simpa using this
  · rintro ⟨h1, h2, o, ho, h3⟩
    refine ⟨h1, ?_⟩
    rw [ho, Bool.and_eq_true, Option.map_some, Option.getD_some, Array.all_eq_true']
    refine ⟨by rw [h2]; rfl, fun e he => ?_⟩
    cases hb : Region.binds .any e with
    | false => rfl
    | true => simpa using h3 e he hb
/-- All that had to come up ahead of what came up has. -/
def ClosedR (ops : Array Oper) (l : Array Bool) : Prop := ∀ (i : Nat) (o : Oper), ops[i]? = some o → l.getD i false = true → ∀ e ∈ o.after, l.getD e.on false = true
structure RegOk (ops : Array Oper) (nt : Nat) (ch : List Nat) : Prop where
  op : ∀ (i : Nat) (o : Oper), ops[i]? = some o → o.guard = none ∧ (∀ cs b, o.op ≠ .select cs b) ∧ (∃ d, o.dst = some d ∧ d < nt) ∧ ∀ e ∈ o.after, e.on < i ∧ Region.binds .any e = true
  uq : ∀ (i j : Nat) (o p : Oper) (d : Nat), ops[i]? = some o → ops[j]? = some p → o.dst = some d → p.dst = some d → i = j
  lk : ∀ (i : Nat) (o : Oper) (t : Nat), ops[i]? = some o → Operand.tmp t ∈ o.op.operands → ∀ (j : Nat) (p : Oper), ops[j]? = some p → p.dst = some t → ∃ e ∈ o.after, e.on = j
  dn : ∀ (k c c' : Nat), ch[k]? = some c → ch[k + 1]? = some c' → ∀ l : Array Bool, ClosedR ops l → l.getD c' false = true → l.getD c false = true
  nd : ∀ (m n c : Nat), ch[m]? = some c → ch[n]? = some c → m = n
  cs : ∀ c ∈ ch, c < ops.size
theorem cnt_pre : ∀ (ch : List Nat) (f : Nat → Bool) (k : Nat), k ≤ ch.length → (∀ m c, ch[m]? = some c → (f c = true ↔ m < k)) → (ch.filter f).length = k
  | [], _, k, h, _ => by simp at h; simp [h]
  | c :: ch, f, 0, _, hf => by
    have h0 := hf 0 c rfl
    have : f c = false := by cases h : f c with
      | false => rfl
      | true => have := h0.1 h; omega
    rw [List.filter_cons, this]
    exact cnt_pre ch f 0 (Nat.zero_le _) (fun m c' hc => (hf (m + 1) c' (by simpa using hc)).trans (by omega))
  | c :: ch, f, k + 1, h, hf => by
    have h0 := (hf 0 c rfl).2 (by omega)
    rw [List.filter_cons, h0]
    have := cnt_pre ch f k (by simpa using h) (fun m c' hc => (hf (m + 1) c' (by simpa using hc)).trans (by omega))
    simp [this]
theorem RegOk.down {ops : Array Oper} {nt : Nat} {ch : List Nat} (h : RegOk ops nt ch) {l : Array Bool} (hl : ClosedR ops l) : ∀ (d m c c' : Nat), ch[m]? = some c → ch[m + d]? = some c' → l.getD c' false = true → l.getD c false = true
  | 0, m, c, c', h1, h2, h3 => by
    rw [Nat.add_zero, h1] at h2
    cases h2
    exact h3
  | d + 1, m, c, c', h1, h2, h3 => by
    have hlt : m + (d + 1) < ch.length := (List.getElem?_eq_some_iff.1 h2).1
    have h4 : ch[m + d]? = some ch[m + d] := List.getElem?_eq_getElem (by omega)
    exact h.down hl d m c _ h1 h4 (h.dn (m + d) _ c' h4 h2 l hl h3)

structure RegInv (ops : Array Oper) (af : Act) (ch : List Nat) (St : Nat → World) (l : Array Bool) (a : Act) (w : World) : Prop where
  sz : l.size = ops.size
  ts : a.tmps.size = af.tmps.size
  df : a.defers = af.defers
  ev : ∀ t, (∀ (i : Nat) (o : Oper), ops[i]? = some o → o.dst = some t → l.getD i false = true) → a.eval (.tmp t) = af.eval (.tmp t)
  cl : ClosedR ops l
  wd : w = St (ch.filter (fun c => l.getD c false)).length

theorem eval_put_same {a : Act} {d : Nat} {v : Value} (h : d < a.tmps.size) : (a.put (some d) v).eval (.tmp d) = v := by
  simp [Act.eval, Act.put, Array.getD_eq_getD_getElem?, h]

theorem RegInv.step {ops : Array Oper} {nt : Nat} {af : Act} {ch : List Nat} {St : Nat → World} (hk : RegOk ops nt ch) (hnt : nt ≤ af.tmps.size) {l : Array Bool} {a : Act} {w : World} (h : RegInv ops af ch St l a w) {i : Nat} (hi : i ∈ Region.ready .any ops l) {o : Oper} (ho : ops[i]? = some o) {d : Nat} (hd : o.dst = some d) {w' : World} (hw : w' = St (ch.filter (fun c => (l.setIfInBounds i true).getD c false)).length) : RegInv ops af ch St (l.setIfInBounds i true) (a.put o.dst (af.eval (.tmp d))) w' := by
  obtain ⟨h1, h2, o', ho', h3⟩ := mem_ready.1 hi
  rw [ho] at ho'
  cases ho'
  obtain ⟨-, -, ⟨d', hd', hdn⟩, haf⟩ := hk.op i o ho
  rw [hd] at hd'
  cases hd'
  have hil : i < l.size := by rw [h.sz]; exact h1
  refine ⟨by rw [Array.size_setIfInBounds]; exact h.sz, ?_, ?_, fun t ht => ?_, fun j p hj hl e he => ?_, hw⟩
  · rw [hd]; simp [Act.put, h.ts]
  · rw [hd]; exact h.df
  · rw [hd]
    by_cases htd : t = d
    · subst htd
      exact eval_put_same (by rw [h.ts]; exact Nat.lt_of_lt_of_le hdn hnt)
    · rw [Act.eval_put (fun d2 hd2 e => htd (by cases hd2; cases e; rfl))]
      refine h.ev t (fun j p hj hp => ?_)
      have := ht j p hj hp
      rw [getD_on _ _ _ _ hil] at this
      split at this
      · rename_i e
        subst e
        rw [ho] at hj
        cases hj
        rw [hd] at hp
        cases hp
        exact absurd rfl htd
      · exact this
  · rw [getD_on _ _ _ _ hil] at hl ⊢
    split
    · rfl
    · split at hl
      · rename_i e
        subst e
        rw [ho] at hj
        cases hj
        exact h3 e he (haf e he).2
      · exact h.cl j p hj hl e he

theorem count_on {l : Array Bool} {i : Nat} (hi : i < l.size) (h : l.getD i true = false) : (l.setIfInBounds i true).toList.count false + 1 = l.toList.count false := by
  have hi' : i < l.toList.length := by simpa using hi
  have hx : l.toList[i] = false := by
    rw [Array.getD_eq_getD_getElem?, Array.getElem?_eq_getElem hi, Option.getD_some] at h
    simpa using h
  rw [Array.toList_setIfInBounds, List.count_set hi', hx]
  have hp : 0 < l.toList.count false := List.count_pos_iff.2 (hx ▸ List.getElem_mem hi')
  generalize l.toList.count false = n at hp ⊢
  simp
  omega

/-- THE REGION: what each operation does once what it looks at is there; then the end is this. -/
theorem wp_region_det {P : Program} {id : Nat} {ops : Array Oper} {Q : Exit → Act → World → Prop} {nt : Nat} {a af : Act} {ch : List Nat} {St : Nat → World} {w : World} (hm : P.follows .mixedOrders = true) (hk : RegOk ops nt ch) (hnt : nt ≤ af.tmps.size)
    (hts : a.tmps.size = af.tmps.size) (hdf : a.defers = af.defers) (hev : ∀ t, (∀ (i : Nat) (o : Oper), ops[i]? = some o → o.dst ≠ some t) → a.eval (.tmp t) = af.eval (.tmp t)) (hw : { w with drawn := w.drawn + 1 } = St 0)
    (hop : ∀ (i : Nat) (o : Oper) (d : Nat), ops[i]? = some o → o.dst = some d → i ∉ ch → ∀ k, (execOp af.eval o).run P (St k) = .ok (.value (af.eval (.tmp d))) (St k))
    (hch : ∀ (k i : Nat) (o : Oper) (d : Nat), ch[k]? = some i → ops[i]? = some o → o.dst = some d → ∀ (b : Act) (K : Act → World → Prop), execOp b.eval o = execOp af.eval o → K (b.put o.dst (af.eval (.tmp d))) (St (k + 1)) → o.wp P b (St k) K Q)
    (hend : Q .normal af (St ch.length)) : (Code.region id ops true).wp P Q a w := by
  refine wp_region_any hm ?_
  rw [hw]
  have key : ∀ (fuel : Nat) (l : Array Bool) (a : Act) (w : World), l.toList.count false ≤ fuel → RegInv ops af ch St l a w → wpAny P .any ops Q fuel l a w := by
    have hall : ∀ (l : Array Bool) (a : Act) (w : World), RegInv ops af ch St l a w → Region.ready .any ops l = [] → Q .normal a w := fun l a w h hr => by
      have hon : ∀ i, i < ops.size → l.getD i false = true := fun i => by
        induction i using Nat.strongRecOn with
        | _ i ih =>
          intro hi
          cases hx : l.getD i true with
          | false =>
            have ho : ops[i]? = some ops[i] := Array.getElem?_eq_getElem hi
            have : i ∈ Region.ready .any ops l := mem_ready.2 ⟨hi, hx, _, ho, fun e he _ => by
              have := ((hk.op i _ ho).2.2.2 e he).1
              exact ih e.on this (by omega)⟩
            rw [hr] at this
            cases this
          | true =>
            have hil : i < l.size := by rw [h.sz]; exact hi
            rw [Array.getD_eq_getD_getElem?, Array.getElem?_eq_getElem hil, Option.getD_some] at hx ⊢
            exact hx
      have ha : a = af := by
        obtain ⟨tm, df⟩ := a
        obtain ⟨tm2, df2⟩ := af
        have h1 := h.df
        have h2 := h.ts
        simp only at h1 h2
        subst h1
        congr 1
        refine Array.ext h2 (fun t ht1 ht2 => ?_)
        have := h.ev t (fun i o ho _ => hon i (Array.getElem?_eq_some_iff.1 ho).1)
        simp only [Act.eval, Array.getD_eq_getD_getElem?, Array.getElem?_eq_getElem ht1, Array.getElem?_eq_getElem ht2, Option.getD_some] at this
        exact this
      have hwd := h.wd
      by_cases hc : ∀ c ∈ ch, l.getD c false = true
      · rw [List.filter_eq_self.2 hc] at hwd
        rw [ha, hwd]
        exact hend
      · exfalso
        apply hc
        intro c hcm
        exact hon c (hk.cs c hcm)
    intro fuel
    induction fuel with
    | zero =>
      intro l a w hf h
      have hr : Region.ready .any ops l = [] := by
        rcases hx : Region.ready .any ops l with _ | ⟨i, r⟩
        · rfl
        · have hi : i ∈ Region.ready .any ops l := by rw [hx]; exact List.mem_cons_self
          obtain ⟨h1, h2, -⟩ := mem_ready.1 hi
          have := count_on (l := l) (i := i) (by rw [h.sz]; exact h1) h2
          omega
      exact ⟨hr, hall l a w h hr⟩
    | succ fuel ih =>
      intro l a w hf h
      refine ⟨hall l a w h, fun i hi => ?_⟩
      obtain ⟨h1, h2, o, ho, h3⟩ := mem_ready.1 hi
      obtain ⟨hg, hsel, ⟨d, hd, hdn⟩, haf⟩ := hk.op i o ho
      have hil : i < l.size := by rw [h.sz]; exact h1
      have hcnt := count_on hil h2
      have hoff : l.getD i false = false := by
        rw [Array.getD_eq_getD_getElem?, Array.getElem?_eq_getElem hil, Option.getD_some] at h2 ⊢
        exact h2
      have hexec : execOp a.eval o = execOp af.eval o := execOp_congr o hsel (fun x hx => by
        cases x with
        | tmp t => exact h.ev t (fun j p hj hp => by
            obtain ⟨e, he, hej⟩ := hk.lk i o t ho hx j p hj hp
            rw [← hej]
            exact h3 e he (haf e he).2)
        | _ => rfl)
      have hclosed : ClosedR ops (l.setIfInBounds i true) := (h.step hk hnt hi ho hd rfl).cl
      unfold wpOp
      rw [ho]
      simp only [Region.wanted, hg, if_true]
      left
      by_cases hic : i ∈ ch
      · obtain ⟨k, hklt, hki⟩ := List.mem_iff_getElem.1 hic
        have hk0 : ch[k]? = some i := by rw [List.getElem?_eq_getElem hklt, hki]
        have hne : ∀ m c, ch[m]? = some c → m ≠ k → i ≠ c := fun m c hc hmk e => hmk (hk.nd m k i (by rw [hc, e]) hk0)
        have hin' : (l.setIfInBounds i true).getD i false = true := by rw [getD_on _ _ _ _ hil, if_pos rfl]
        have hpre : ∀ m c, ch[m]? = some c → (l.getD c false = true ↔ m < k) := fun m c hc => by
          constructor
          · intro hon
            by_cases hlt : m < k
            · exact hlt
            · exfalso
              have := hk.down h.cl (m - k) k i c hk0 (by rw [show k + (m - k) = m by omega]; exact hc) hon
              rw [hoff] at this
              cases this
          · intro hlt
            have := hk.down hclosed (k - m) m c i hc (by rw [show m + (k - m) = k by omega]; exact hk0) hin'
            rw [getD_on _ _ _ _ hil, if_neg (hne m c hc (by omega))] at this
            exact this
        have e1 : (ch.filter (fun c => l.getD c false)).length = k := cnt_pre ch _ k (by omega) hpre
        have e2 : (ch.filter (fun c => (l.setIfInBounds i true).getD c false)).length = k + 1 := cnt_pre ch _ (k + 1) (by omega) (fun m c hc => by
          rw [getD_on _ _ _ _ hil]
          by_cases hmk : m = k
          · subst hmk
            rw [hk0] at hc
            cases hc
            rw [if_pos rfl]
            exact ⟨fun _ => by omega, fun _ => rfl⟩
          · rw [if_neg (hne m c hc hmk), hpre m c hc]
            omega)
        have hwd := h.wd
        rw [e1] at hwd
        subst hwd
        refine hch k i o d hk0 ho hd a _ hexec ?_
        exact ih _ _ _ (by omega) (h.step hk hnt hi ho hd (by rw [e2]))
      · have e1 : ch.filter (fun c => (l.setIfInBounds i true).getD c false) = ch.filter (fun c => l.getD c false) := List.filter_congr (fun c hc => by
          rw [getD_on _ _ _ _ hil, if_neg (fun e : i = c => hic (by rw [e]; exact hc))])
        have hwd := h.wd
        have hrun := hop i o d ho hd hic (ch.filter (fun c => l.getD c false)).length
        rw [← hwd] at hrun
        unfold Oper.wp
        rw [hexec, hrun, Oper.upon_value]
        exact ih _ _ _ (by omega) (h.step hk hnt hi ho hd (by rw [e1]; exact hwd))
  refine key _ _ _ _ (by simp) ⟨by simp, hts, hdf, fun t ht => hev t (fun i o ho hd => ?_), fun i o _ hl => ?_, ?_⟩
  · have := ht i o ho hd
    simp [Array.getD_eq_getD_getElem?, Array.getElem?_replicate] at this
    split at this <;> simp at this
  · simp [Array.getD_eq_getD_getElem?, Array.getElem?_replicate] at hl
    split at hl <;> simp at hl
  · have : ch.filter (fun c => (Array.replicate ops.size false).getD c false) = [] := List.filter_eq_nil_iff.2 (fun c _ => by
      simp [Array.getD_eq_getD_getElem?, Array.getElem?_replicate]
      split <;> simp)
    rw [this]
    rfl

/-! ### The same by a reckoning -/
def notSel : Op → Bool
  | .select _ _ => false
  | _ => true
def opB (nt i : Nat) (o : Oper) : Bool := o.guard.isNone && notSel o.op && (match o.dst with | some d => Nat.blt d nt | none => false) && o.after.toList.all (fun e => Nat.blt e.on i && Region.binds .any e)
def allB (f : Nat → Oper → Bool) : Nat → List Oper → Bool
  | _, [] => true
  | i, o :: l => f i o && allB f (i + 1) l
theorem allB_spec {f : Nat → Oper → Bool} : ∀ (L : List Oper) (n : Nat), allB f n L = true → ∀ (i : Nat) (o : Oper), L[i]? = some o → f (n + i) o = true
  | [], _, _, i, o, h => by simp at h
  | p :: L, n, hb, 0, o, h => by
    simp at h
    subst h
    exact (Bool.and_eq_true _ _ ▸ hb : f n p = true ∧ allB f (n + 1) L = true).1
  | p :: L, n, hb, i + 1, o, h => by
    have h2 := (Bool.and_eq_true _ _ ▸ hb : f n p = true ∧ allB f (n + 1) L = true).2
    have := allB_spec L (n + 1) h2 i o (by simpa using h)
    rwa [Nat.add_assoc, Nat.add_comm 1] at this
def isD : Option Nat → Nat → Bool
  | some d, t => Nat.beq d t
  | none, _ => false
theorem isD_iff {x : Option Nat} {t : Nat} : isD x t = true ↔ x = some t := by
  cases x with
  | none => simp [isD]
  | some d => simp [isD, Nat.beq_eq]
def offB (l : List (Option Nat)) : Option Nat → Bool
  | some t => l.all (fun y => !isD y t)
  | none => true
def nodB : List (Option Nat) → Bool
  | [] => true
  | x :: l => offB l x && nodB l
theorem nodB_spec : ∀ (l : List (Option Nat)), nodB l = true → ∀ (i j t : Nat), l[i]? = some (some t) → l[j]? = some (some t) → i = j
  | [], _, i, _, _, h, _ => by simp at h
  | x :: l, hb, i, j, t, h1, h2 => by
    obtain ⟨hx, hl⟩ := (Bool.and_eq_true _ _ ▸ hb : offB l x = true ∧ nodB l = true)
    have far : x = some t → ∀ j, l[j]? = some (some t) → False := fun e j hj => by
      subst e
      have := List.all_eq_true.1 hx _ (List.mem_of_getElem? hj)
      rw [isD_iff.2 rfl] at this
      cases this
    cases i with
    | zero =>
      cases j with
      | zero => rfl
      | succ j => exact (far (by simpa using h1) j (by simpa using h2)).elim
    | succ i =>
      cases j with
      | zero => exact (far (by simpa using h2) i (by simpa using h1)).elim
      | succ j => rw [nodB_spec l hl i j t (by simpa using h1) (by simpa using h2)]
def findI : List (Option Nat) → Nat → Nat → Option Nat
  | [], _, _ => none
  | x :: l, t, n => if isD x t then some n else findI l t (n + 1)
theorem findI_some : ∀ (l : List (Option Nat)) (t n j : Nat), l[j]? = some (some t) → ∃ k, findI l t n = some (n + k) ∧ l[k]? = some (some t)
  | [], _, _, j, h => by simp at h
  | x :: l, t, n, j, h => by
    unfold findI
    by_cases hx : isD x t = true
    · rw [if_pos hx]
      exact ⟨0, rfl, by simp [isD_iff.1 hx]⟩
    · rw [if_neg hx]
      cases j with
      | zero => exact absurd (isD_iff.2 (by simpa using h)) hx
      | succ j =>
        obtain ⟨k, h1, h2⟩ := findI_some l t (n + 1) j (by simpa using h)
        exact ⟨k + 1, by rw [h1]; congr 1; omega, by simpa using h2⟩
def lkB (ds : List (Option Nat)) (o : Oper) : Bool := o.op.operands.toList.all fun x => match x with
  | .tmp t => (match findI ds t 0 with | none => true | some j => o.after.toList.any (fun e => Nat.beq e.on j))
  | _ => true
def dnB (ops : Array Oper) (c c' : Nat) : Bool := match ops[c']? with
  | some o => o.after.toList.any (fun e => Nat.beq e.on c || (match ops[e.on]? with | some p => p.after.toList.any (fun e2 => Nat.beq e2.on c) | none => false))
  | none => false
theorem dnB_spec {ops : Array Oper} {c c' : Nat} (h : dnB ops c c' = true) {l : Array Bool} (hl : ClosedR ops l) (hc : l.getD c' false = true) : l.getD c false = true := by
  unfold dnB at h
  cases ho : ops[c']? with
  | none => rw [ho] at h; cases h
  | some o =>
    rw [ho] at h
    obtain ⟨e, he, h2⟩ := List.any_eq_true.1 h
    have h3 := hl c' o ho hc e (by simpa using he)
    rcases Bool.or_eq_true _ _ ▸ h2 with h4 | h4
    · rw [Nat.beq_eq] at h4
      rw [← h4]
      exact h3
    · cases hp : ops[e.on]? with
      | none => rw [hp] at h4; cases h4
      | some p =>
        rw [hp] at h4
        obtain ⟨e2, he2, h5⟩ := List.any_eq_true.1 h4
        rw [Nat.beq_eq] at h5
        rw [← h5]
        exact hl e.on p hp h3 e2 (by simpa using he2)
def chB (ops : Array Oper) : List Nat → Bool
  | c :: c' :: l => Nat.blt c c' && dnB ops c c' && chB ops (c' :: l)
  | _ => true
theorem chB_spec {ops : Array Oper} : ∀ (ch : List Nat), chB ops ch = true → ∀ (k c c' : Nat), ch[k]? = some c → ch[k + 1]? = some c' → c < c' ∧ dnB ops c c' = true
  | [], _, k, _, _, h, _ => by simp at h
  | [x], _, k, _, _, _, h => by simp at h
  | x :: y :: l, hb, 0, c, c', h1, h2 => by
    simp at h1 h2
    subst h1 h2
    have hb2 := (Bool.and_eq_true _ _ ▸ hb : (Nat.blt x y && dnB ops x y) = true ∧ chB ops (y :: l) = true).1
    obtain ⟨h3, h4⟩ := (Bool.and_eq_true _ _ ▸ hb2 : Nat.blt x y = true ∧ dnB ops x y = true)
    exact ⟨by simpa [Nat.blt_eq] using h3, h4⟩
  | x :: y :: l, hb, k + 1, c, c', h1, h2 => by
    have hb2 := (Bool.and_eq_true _ _ ▸ hb : (Nat.blt x y && dnB ops x y) = true ∧ chB ops (y :: l) = true).2
    exact chB_spec (y :: l) hb2 k c c' (by simpa using h1) (by simpa using h2)
theorem ch_lt {ch : List Nat} (h : ∀ (k c c' : Nat), ch[k]? = some c → ch[k + 1]? = some c' → c < c') : ∀ (d m c c' : Nat), ch[m]? = some c → ch[m + d + 1]? = some c' → c < c'
  | 0, m, c, c', h1, h2 => h m c c' h1 h2
  | d + 1, m, c, c', h1, h2 => by
    have hlt : m + (d + 1) + 1 < ch.length := (List.getElem?_eq_some_iff.1 h2).1
    have h3 : ch[m + d + 1]? = some ch[m + d + 1] := List.getElem?_eq_getElem (by omega)
    have := ch_lt h d m c _ h1 h3
    have := h (m + d + 1) _ c' h3 h2
    omega
theorem regOk_of {ops : Array Oper} {nt : Nat} {ch : List Nat} (h1 : allB (opB nt) 0 ops.toList = true) (h2 : nodB (ops.toList.map (·.dst)) = true) (h3 : allB (fun _ => lkB (ops.toList.map (·.dst))) 0 ops.toList = true) (h4 : chB ops ch = true) (h5 : ch.all (fun c => Nat.blt c ops.size) = true) : RegOk ops nt ch := by
  have hL : ∀ (i : Nat) (o : Oper), ops[i]? = some o → ops.toList[i]? = some o := fun i o h => by simpa using h
  have hD : ∀ (i : Nat) (o : Oper) (d : Nat), ops[i]? = some o → o.dst = some d → (ops.toList.map (·.dst))[i]? = some (some d) := fun i o d h hd => by
    rw [List.getElem?_map, hL i o h, Option.map_some, hd]
  have hlt := fun k c c' a b => (chB_spec ch h4 k c c' a b).1
  refine ⟨fun i o ho => ?_, fun i j o p d hi hj ho hp => nodB_spec _ h2 i j d (hD i o d hi ho) (hD j p d hj hp), fun i o t ho ht j p hj hp => ?_, fun k c c' hc hc' l hl hx => dnB_spec (chB_spec ch h4 k c c' hc hc').2 hl hx, fun m n c hm hn => ?_, fun c hc => ?_⟩
  · have := allB_spec _ _ h1 i o (hL i o ho)
    rw [Nat.zero_add] at this
    unfold opB at this
    simp only [Bool.and_eq_true] at this
    obtain ⟨⟨⟨g1, g2⟩, g3⟩, g4⟩ := this
    refine ⟨by simpa using g1, (fun cs b e => by rw [e] at g2; cases g2), ?_, fun e he => ?_⟩
    · cases hd : o.dst with
      | none => rw [hd] at g3; cases g3
      | some d => rw [hd] at g3; exact ⟨d, rfl, by simpa [Nat.blt_eq] using g3⟩
    · have := List.all_eq_true.1 g4 e (by simpa using he)
      rw [Bool.and_eq_true] at this
      exact ⟨by simpa [Nat.blt_eq] using this.1, this.2⟩
  · have := allB_spec _ _ h3 i o (hL i o ho)
    unfold lkB at this
    have := List.all_eq_true.1 this (.tmp t) (by simpa using ht)
    obtain ⟨k, hk1, hk2⟩ := findI_some _ t 0 j (hD j p t hj hp)
    have hkj := nodB_spec _ h2 k j t hk2 (hD j p t hj hp)
    simp only [hk1, Nat.zero_add] at this
    obtain ⟨e, he, hej⟩ := List.any_eq_true.1 this
    rw [Nat.beq_eq] at hej
    exact ⟨e, by simpa using he, by rw [hej, hkj]⟩
  · rcases Nat.lt_trichotomy m n with h | h | h
    · have := ch_lt hlt (n - m - 1) m c c hm (by rw [show m + (n - m - 1) + 1 = n by omega]; exact hn)
      omega
    · exact h
    · have := ch_lt hlt (m - n - 1) n c c hn (by rw [show n + (m - n - 1) + 1 = m by omega]; exact hm)
      omega
  · have := List.all_eq_true.1 h5 c hc
    simpa [Nat.blt_eq] using this
def findR (n : Nat) : Code → Option (Array Oper)
  | .region id ops _ => if Nat.beq id n then some ops else none
  | .seq a b => match findR n a with
    | some x => some x
    | none => findR n b
  | .cond _ a b => match findR n a with
    | some x => some x
    | none => findR n b
  | .block _ b => findR n b
  | .loop b => findR n b
  | .scope b => findR n b
  | _ => none
def opsOf (n : Nat) (f : Func) : Array Oper := (f.body.bind (findR n)).getD #[]
theorem wp_conv {P : Program} {id : Nat} {ops ops' : Array Oper} {a a' : Act} {w w' : World} {Q : Exit → Act → World → Prop} (h1 : ops' = ops) (h2 : a' = a) (h3 : w' = w) (h : (Code.region id ops' true).wp P Q a' w') : (Code.region id ops true).wp P Q a w := by
  subst h1 h2 h3
  exact h
end Go.Proofs.YthnmjafoplfikaaGreatDoor
