import PyProof.Rows.All
import Wide.All
import OpenK.AllK
import Wide.FinOn
import HandS.ForMost
import HandS.Wide
import HandS.IsInst
import HandS.NoneIn
import HandS.ForExc
import HandS.ExcSuper
import HandS.Conv
import KE.KExcSuper
import KE.KSuper
import HandS.ExcIs
import HandS.Evl
import HandS.Zip
import HandS.Walk
import HandS.SetFor
import HandS.Style
import HandS.Gcd
import HandS.WideBits
import HandS.Small
import HandS.DictComp
import HandS.List
import HandS.CallSlots
import HandS.Defaults
import HandS.ExcValue
import HandS.ExcCtx
import HandS.HotCalls
import HandS.Comp
import HandS.MakeKw
import HandS.TupLe
import HandS.ExcInitHot
import HandS.WordsExc
import PySem.Challenge.RW_retrynest_k04_policy_errors
set_option Elab.async false
set_option linter.all false
set_option maxRecDepth 100000
set_option maxHeartbeats 4000000
namespace Rn
open PySem PySem.Spec PyProof.Rows L2

/-! ## heaps -/
theorem same_new {H : Hp} {p : Addr} {o : HO} (h : H p = none) : Same H (upd H p o) := fun b x e => by
  rw [upd_ne (ne_of_none e h)]
  exact e
theorem same_keep {H H' : Hp} {p : Addr} {o : HO} (e : Same H H') (h : H p = none) : Same H (upd H' p o) := fun b x q => by
  rw [upd_ne (ne_of_none q h)]
  exact e b x q
theorem sql {K : PySem.W.Frag} {H : Hp} {p : Addr} {xs : List V} (h : H p = some (.lst xs)) : SqL K H p xs := .inl (.inl h)
theorem sqt {K : PySem.W.Frag} {H : Hp} {p : Addr} {xs : List V} (h : H p = some (.tup xs)) : SqT K H p xs := .inl (.inl h)
/-- the source's two objects hidden -/
def hid (a d : Addr) (H : Hp) : Hp := fun b => if b = a ∨ b = d then none else H b
theorem hid_get {a d : Addr} {H : Hp} {b : Addr} {o : HO} (h : hid a d H b = some o) : H b = some o ∧ b ≠ a ∧ b ≠ d := by
  unfold hid at h
  by_cases e : b = a ∨ b = d
  · rw [if_pos e] at h
    cases h
  · rw [if_neg e] at h
    exact ⟨h, fun z => e (.inl z), fun z => e (.inr z)⟩
theorem hid_at {a d : Addr} {H : Hp} {b : Addr} {o : HO} (h : H b = some o) (ha : b ≠ a) (hd : b ≠ d) : hid a d H b = some o := by
  unfold hid
  rw [if_neg (fun z => z.elim ha hd)]
  exact h
theorem hid_none {a d : Addr} {H : Hp} {b : Addr} (h : H b = none) : hid a d H b = none := by
  unfold hid
  split
  · rfl
  · exact h
theorem hid_same {a d : Addr} {H H' : Hp} (e : Same H H') : Same (hid a d H) (hid a d H') := fun b o h => by
  obtain ⟨h1, h2, h3⟩ := hid_get h
  exact hid_at (e _ _ h1) h2 h3
theorem hid_src1 {a d : Addr} {H : Hp} {o : HO} : hid a d (upd H a o) = hid a d H := by
  funext b
  unfold hid
  by_cases e : b = a ∨ b = d
  · rw [if_pos e, if_pos e]
  · rw [if_neg e, if_neg e, upd_ne fun z => e (.inl z)]
theorem hid_src2 {a d : Addr} {H : Hp} {o : HO} : hid a d (upd H d o) = hid a d H := by
  funext b
  unfold hid
  by_cases e : b = a ∨ b = d
  · rw [if_pos e, if_pos e]
  · rw [if_neg e, if_neg e, upd_ne fun z => e (.inr z)]
theorem hid_oth {a d : Addr} {H : Hp} {p : Addr} {o : HO} (ha : p ≠ a) (hd : p ≠ d) : hid a d (upd H p o) = upd (hid a d H) p o := by
  funext b
  by_cases e : b = p
  · rw [e, upd_same]
    exact hid_at upd_same ha hd
  · rw [upd_ne e]
    unfold hid
    rw [upd_ne e]

/-! ## the source of draws: a list at a, its digits at d; at most n draws were mixed -/
def Src (H : Hp) (a d : Addr) (n : Int) : Prop := ∃ (cur mix cnt : Int) (ds : List Int), H a = some (.lst [.ref d, .int cur, .int mix, .int cnt]) ∧ H d = some (.lst (ds.map V.int)) ∧
  0 ≤ mix ∧ mix < 2305843009213693951 ∧ 0 ≤ cnt ∧ cnt ≤ n
theorem Src.ne {H : Hp} {a d : Addr} {n : Int} (s : Src H a d n) : a ≠ d := by
  obtain ⟨cur, mix, cnt, ds, h1, h2, _⟩ := s
  intro e
  rw [e] at h1
  rw [h1] at h2
  cases ds with
  | nil => cases h2
  | cons x r =>
    have z := Option.some.inj h2
    injection z with z
    rw [List.map_cons] at z
    injection z with z1 z2
    cases z1
theorem Src.lst1 {H : Hp} {a d : Addr} {n : Int} (s : Src H a d n) : ∃ o, H a = some o := let ⟨_, _, _, _, h, _⟩ := s; ⟨_, h⟩
theorem Src.lst2 {H : Hp} {a d : Addr} {n : Int} (s : Src H a d n) : ∃ o, H d = some o := let ⟨_, _, _, _, _, h, _⟩ := s; ⟨_, h⟩
theorem Src.same {H H' : Hp} {a d : Addr} {n : Int} (s : Src H a d n) (e : Same H H') : Src H' a d n := by
  obtain ⟨cur, mix, cnt, ds, h1, h2, h3⟩ := s
  exact ⟨cur, mix, cnt, ds, e _ _ h1, e _ _ h2, h3⟩
theorem Src.keep {H : Hp} {a d p : Addr} {o : HO} {n : Int} (s : Src H a d n) (ha : p ≠ a) (hd : p ≠ d) : Src (upd H p o) a d n := by
  obtain ⟨cur, mix, cnt, ds, h1, h2, h3⟩ := s
  exact ⟨cur, mix, cnt, ds, by rw [upd_ne ha.symm]; exact h1, by rw [upd_ne hd.symm]; exact h2, h3⟩
theorem Src.mono {H : Hp} {a d : Addr} {n m : Int} (s : Src H a d n) (h : n ≤ m) : Src H a d m := by
  obtain ⟨cur, mix, cnt, ds, h1, h2, h3, h4, h5, h6⟩ := s
  exact ⟨cur, mix, cnt, ds, h1, h2, h3, h4, h5, Int.le_trans h6 h⟩
theorem Src.new1 {H : Hp} {a d p : Addr} {n : Int} (s : Src H a d n) (h : H p = none) : p ≠ a ∧ p ≠ d := by
  obtain ⟨o, h1⟩ := s.lst1
  obtain ⟨u, h2⟩ := s.lst2
  exact ⟨(ne_of_none h1 h).symm, (ne_of_none h2 h).symm⟩

/-- what a call that draws at most c times does to the heap: all but the source stays, the source is a source -/
structure Adv (a d : Addr) (c : Int) (H H' : Hp) : Prop where
  same : Same (hid a d H) (hid a d H')
  src : ∀ n, Src H a d n → Src H' a d (n + c)
theorem Adv.refl {a d : Addr} {H : Hp} : Adv a d 0 H H := ⟨Same.refl _, fun n s => s.mono (by omega)⟩
theorem Adv.trans {a d : Addr} {c c' e : Int} {H H1 H2 : Hp} (x : Adv a d c H H1) (y : Adv a d c' H1 H2) (h : c + c' ≤ e) : Adv a d e H H2 :=
  ⟨x.same.trans y.same, fun n s => (y.src _ (x.src _ s)).mono (by omega)⟩
theorem Adv.mono {a d : Addr} {c e : Int} {H H1 : Hp} (x : Adv a d c H H1) (h : c ≤ e) : Adv a d e H H1 := ⟨x.same, fun n s => (x.src _ s).mono (by omega)⟩
theorem Adv.of {a d : Addr} {H H' : Hp} (e : Same H H') : Adv a d 0 H H' := ⟨hid_same e, fun n s => (s.same e).mono (by omega)⟩
/-- .. where a new object of the way has changed -/
theorem Adv.mut {a d : Addr} {c : Int} {H H' : Hp} {p : Addr} {o : HO} {n : Int} (x : Adv a d c H H') (s : Src H a d n) (h : H p = none) : Adv a d c H (upd H' p o) := by
  obtain ⟨h1, h2⟩ := s.new1 h
  refine ⟨?_, fun m t => (x.src m t).keep h1 h2⟩
  rw [hid_oth h1 h2]
  exact same_keep x.same (hid_none h)
/-- free behind is free ahead -/
theorem Adv.free {a d p : Addr} {c n : Int} {H H' : Hp} (x : Adv a d c H H') (s : Src H a d n) (h : H' p = none) : H p = none := by
  have s' := x.src n s
  obtain ⟨h1, h2⟩ := s'.new1 h
  cases q : H p with
  | none => rfl
  | some o =>
    have e := (hid_get (x.same p o (hid_at q h1 h2))).1
    rw [h] at e
    cases e
theorem Adv.made {a d : Addr} {c cur mix cnt cur' cnt' : Int} {H H' : Hp} {ds' : List Int} (e : Same (hid a d H) (hid a d H')) (h : H a = some (.lst [.ref d, .int cur, .int mix, .int cnt]))
    (h' : H' a = some (.lst [.ref d, .int cur', .int mix, .int cnt'])) (hd' : H' d = some (.lst (ds'.map V.int))) (h0 : cnt ≤ cnt') (h1 : cnt' ≤ cnt + c) : Adv a d c H H' := by
  refine ⟨e, fun n s => ?_⟩
  obtain ⟨cu, mi, cn, ds, a1, a2, a3, a4, a5, a6⟩ := s
  rw [h] at a1
  cases a1
  exact ⟨cur', mix, cnt', ds', h', hd', a3, a4, by omega, by omega⟩
theorem small64 {x b : Int} (h0 : 0 ≤ x) (h1 : x < b) (hb : b ≤ 18446744073709551616) : x.natAbs < 2 ^ 64 := by omega

/-! ## ints in lists -/
theorem map_get {ns : List Int} {i : Nat} {x : Int} (h : ns[i]? = some x) : (ns.map V.int)[i]? = some (.int x) := by
  rw [List.getElem?_map, h]
  rfl
theorem at_int {ns : List Int} {i : Int} (h0 : 0 ≤ i) (h : i < ns.length) : ∃ x, x ∈ ns ∧ ns[i.toNat]? = some x ∧ atI (ns.map V.int) i = some (.int x) := by
  obtain ⟨j, rfl⟩ : ∃ j : Nat, i = (j : Int) := ⟨i.toNat, by omega⟩
  have hi : j < ns.length := by omega
  exact ⟨ns[j], List.getElem_mem hi, List.getElem?_eq_getElem hi, atI_nat (map_get (List.getElem?_eq_getElem hi))⟩
theorem at_val {xs : List V} {i : Int} (h0 : 0 ≤ i) (h : i < xs.length) : ∃ x, x ∈ xs ∧ xs[i.toNat]? = some x ∧ atI xs i = some x := by
  obtain ⟨j, rfl⟩ : ∃ j : Nat, i = (j : Int) := ⟨i.toNat, by omega⟩
  have hi : j < xs.length := by omega
  exact ⟨xs[j], List.getElem_mem hi, List.getElem?_eq_getElem hi, atI_nat (List.getElem?_eq_getElem hi)⟩
theorem size_le {n : Nat} (h : n ≤ 100000) : n ≤ sizeLine := Nat.le_trans h (by decide)
theorem size_lt {n : Nat} (h : n < 100000) : n < sizeLine := Nat.lt_of_lt_of_le h (by decide)
mutual
theorem eqv_refl' : ∀ d : PyData, d.canLay0 = true → PyData.eqv d d = true
  | .none, _ => rfl
  | .bool b, _ => by simp [PyData.eqv]
  | .int i, _ => by simp [PyData.eqv]
  | .str x, _ => by simp [PyData.eqv]
  | .list xs, h => by
    simp only [PyData.eqv]
    exact eqvAll_refl' xs (by simpa [PyData.canLay0] using h)
  | .tuple xs, h => by
    simp only [PyData.eqv]
    exact eqvAll_refl' xs (by simpa [PyData.canLay0] using h)
  | .dict _, h => by simp [PyData.canLay0] at h
theorem eqvAll_refl' : ∀ ds : List PyData, PyData.canLayAll0 ds = true → PyData.eqvAll ds ds = true
  | [], _ => by simp [PyData.eqvAll]
  | d :: ds, h => by
    have h' : d.canLay0 = true ∧ PyData.canLayAll0 ds = true := by simpa [PyData.canLayAll0] using h
    simp only [PyData.eqvAll, Bool.and_eq_true]
    exact ⟨eqv_refl' d h'.1, eqvAll_refl' ds h'.2⟩
end
/-- a list of ints as data -/
def dInts (ns : List Int) : PyData := .list (ns.map .int)
theorem eqvAll_ints : ∀ ns ms : List Int, PyData.eqvAll (ns.map .int) (ms.map .int) = decide (ns = ms)
  | [], [] => by simp [PyData.eqvAll]
  | [], _ :: _ => by simp [PyData.eqvAll]
  | _ :: _, [] => by simp [PyData.eqvAll]
  | n :: ns, m :: ms => by
    have ih := eqvAll_ints ns ms
    simp only [List.map_cons, PyData.eqvAll, PyData.eqv, ih]
    by_cases h1 : n = m <;> by_cases h2 : ns = ms <;> simp [h1, h2]
theorem eqv_ints (ns ms : List Int) : PyData.eqv (dInts ns) (dInts ms) = decide (ns = ms) := by
  unfold dInts
  simp only [PyData.eqv]
  exact eqvAll_ints ns ms
theorem canLay_ints : ∀ ns : List Int, PyData.canLayAll0 (ns.map .int) = true
  | [] => by simp [PyData.canLayAll0]
  | n :: ns => by simp [PyData.canLayAll0, PyData.canLay0, canLay_ints ns]
theorem depth_ints : ∀ ns : List Int, PyData.depthAll (ns.map .int) ≤ 1
  | [] => by simp [PyData.depthAll]
  | n :: ns => by
    have := depth_ints ns
    simp only [List.map_cons, PyData.depthAll, PyData.depth]
    omega
theorem shaped_ints (ns : List Int) : SeqAt.shaped (dInts ns) = true := by
  have h := depth_ints ns
  unfold SeqAt.shaped
  rw [Bool.and_eq_true]
  refine ⟨?_, decide_eq_true ?_⟩
  · unfold dInts
    simp only [PyData.canLay0, canLay_ints]
  · unfold dInts
    simp only [PyData.depth]
    omega
theorem dp_all {K : PySem.W.Frag} {H : Hp} : ∀ ns : List Int, DpAll K H (ns.map V.int) (ns.map .int)
  | [] => .nil
  | n :: ns => .cons (.int n) (dp_all ns)
theorem dp_ints {K : PySem.W.Frag} {H : Hp} {p : Addr} {ns : List Int} (h : SqL K H p (ns.map V.int)) : Dp K H (.ref p) (dInts ns) := .lst h (dp_all ns)
theorem dp_nil {K : PySem.W.Frag} {H : Hp} {p : Addr} (h : SqL K H p []) : Dp K H (.ref p) (dInts []) := .lst h .nil

/-! ## loops -/
/-- for i, x in enumerate(xs), xs left as it is -/
theorem for_enum {K : PySem.W.Frag} {a : Addr} {xs : List V} {g : TG} {tb : TS} {D : Ends} {σ : L2.St} {H : Hp} (Pv : Nat → L2.St → Hp → Prop) (h0 : Pv 0 σ H)
    (hl : ∀ i σ H, i ≤ xs.length → Pv i σ H → SqL K H a xs)
    (hs : ∀ i x σ H T, xs[i]? = some x → Pv i σ H → H T = none → g (.ref T) σ (upd H T (.tup [.int (i : Nat), x])) fun σ2 H2 => tb { D with nx := Pv (i + 1), ct := Pv (i + 1), bk := D.nx } σ2 H2)
    (hd : ∀ σ H, Pv xs.length σ H → D.nx σ H) :
    ∃ W : Nat → Nat → L2.St → Hp → Prop, (∃ m, W 0 m σ H) ∧ ∀ i m σ H, W i m σ H →
      ((Ite K a).stop i H ∧ D.nx σ H) ∨ ((Ite K a).go i H ∧ ∃ N : L2.St → Hp → Prop, (∀ σ' H', N σ' H' → ∃ m', m' < m ∧ W (i + 1) m' σ' H') ∧
        ∀ x H', (Ite K a).yld i H x H' → g x σ H' fun σ2 H2 => tb { D with nx := N, ct := N, bk := D.nx } σ2 H2) := by
  refine ⟨fun i m σ' H' => m + i = xs.length ∧ Pv i σ' H', ⟨xs.length, rfl, h0⟩, fun i m σ' H' hW => ?_⟩
  obtain ⟨em, hp⟩ := hW
  have hq := hl i σ' H' (by omega) hp
  by_cases hi : i < xs.length
  · refine .inr ⟨⟨xs, xs[i], hq, List.getElem?_eq_getElem hi⟩, Pv (i + 1), fun σ2 H2 h2 => ⟨m - 1, by omega, by omega, h2⟩, fun x H2 hy => ?_⟩
    obtain ⟨T, y, rfl, nT, rfl, hx⟩ := hy
    exact hs i y σ' H' T (hx xs hq) hp nT
  · have e : i = xs.length := by omega
    subst e
    exact .inl ⟨⟨xs, hq, Nat.le_refl _⟩, hd σ' H' hp⟩

/-! ## kinds -/
section
variable {K : PySem.W.Frag} {H : Hp} {p : Addr} {xs : List V} {Q : VK}
theorem isi_tt (h : H p = some (.tup xs)) (q : Q (.bl true) H) : rIsi K [.ref p, .ty "tuple"] H Q := ⟨_, _, _, _, _, rfl, .ty "tuple", .base (.tup h), kit_ty (by decide +kernel), q⟩
theorem isi_lt (h : H p = some (.lst xs)) (q : Q (.bl false) H) : rIsi K [.ref p, .ty "tuple"] H Q := ⟨_, _, _, _, _, rfl, .ty "tuple", .base (.lst h), kit_ty (by decide +kernel), q⟩
theorem isi_ll (h : H p = some (.lst xs)) (q : Q (.bl true) H) : rIsi K [.ref p, .ty "list"] H Q := ⟨_, _, _, _, _, rfl, .ty "list", .base (.lst h), kit_ty (by decide +kernel), q⟩
theorem isi_tl (h : H p = some (.tup xs)) (q : Q (.bl false) H) : rIsi K [.ref p, .ty "list"] H Q := ⟨_, _, _, _, _, rfl, .ty "list", .base (.tup h), kit_ty (by decide +kernel), q⟩
end

theorem units1 {n c : Nat} (h : n + 64 < c) : n + 1 < c := by omega
theorem yes_thn {σ : L2.St} {H : Hp} {A B : Hp → Prop} (h : A H) : tYes σ H (fun b H3 => if b = true then A H3 else B H3) := by
  change (if true = true then A H else B H)
  exact (if_pos rfl).mpr h
/-! ## policies and layers -/
/-- the inner one, then each wait of the outer one and the inner one again -/
def nestL {α : Type} (xs ys : List α) : List α := xs ++ ys.flatMap fun y => y :: xs
theorem nestL_map {α β : Type} (f : α → β) (xs ys : List α) : (nestL xs ys).map f = nestL (xs.map f) (ys.map f) := by
  unfold nestL
  rw [List.map_append, List.map_flatMap, List.flatMap_map]
  congr 1
theorem flatMap_len {α β : Type} (f : α → List β) (n : Nat) (h : ∀ x, (f x).length = n) : ∀ l : List α, (l.flatMap f).length = l.length * n
  | [] => by simp
  | x :: l => by
    rw [List.flatMap_cons, List.length_append, h x, flatMap_len f n h l, List.length_cons, Nat.succ_mul, Nat.add_comm]
theorem nestL_len {α : Type} (xs ys : List α) : (nestL xs ys).length + 1 = (xs.length + 1) * (ys.length + 1) := by
  unfold nestL
  rw [List.length_append, flatMap_len _ (xs.length + 1) (fun _ => rfl)]
  generalize xs.length = a
  generalize ys.length = b
  have e1 : (a + 1) * (b + 1) = a * b + a + (b + 1) := by rw [Nat.add_mul, Nat.mul_add, Nat.mul_one, Nat.one_mul]
  have e2 : b * (a + 1) = a * b + b := by rw [Nat.mul_add, Nat.mul_one, Nat.mul_comm]
  omega
theorem nestL_nil {α : Type} (xs : List α) : nestL xs [] = xs := by
  unfold nestL
  simp
theorem nil_nestL {α : Type} (ys : List α) : nestL [] ys = ys := by
  unfold nestL
  simp
theorem nestL_mem {α : Type} {xs ys : List α} {z : α} (h : z ∈ nestL xs ys) : z ∈ xs ∨ z ∈ ys := by
  unfold nestL at h
  rw [List.mem_append, List.mem_flatMap] at h
  rcases h with h | ⟨y, hy, h⟩
  · exact .inl h
  · rcases List.mem_cons.mp h with e | h
    · exact .inr (e ▸ hy)
    · exact .inl h
inductive Lay where
  | pol (ns : List Int)
  | con (w n : Int)
def Lay.cnt : Lay → Int
  | .pol ns => (ns.length : Int) + 1
  | .con _ n => n
def Lay.waits : Lay → List Int
  | .pol ns => ns
  | .con w n => List.replicate (n - 1).toNat w
def Lay.ok : Lay → Bool
  | .pol ns => ns.all fun x => decide (0 ≤ x)
  | .con w n => decide (0 ≤ w) && decide (1 ≤ n)
theorem Lay.ok_con (w n : Int) : (Lay.con w n).ok = (decide (0 ≤ w) && decide (1 ≤ n)) := rfl
theorem Lay.ok_pol (ns : List Int) : (Lay.pol ns).ok = ns.all fun x => decide (0 ≤ x) := rfl
def LayAt (H : Hp) (v : V) : Lay → Prop
  | .pol ns => ∃ p, v = .ref p ∧ H p = some (.lst (ns.map V.int))
  | .con w n => ∃ p, v = .ref p ∧ H p = some (.tup [.int w, .int n])
theorem LayAt.same {H H' : Hp} {v : V} {L : Lay} (h : LayAt H v L) (e : Same H H') : LayAt H' v L := by
  cases L with
  | pol ns => obtain ⟨p, h1, h2⟩ := h; exact ⟨p, h1, e _ _ h2⟩
  | con w n => obtain ⟨p, h1, h2⟩ := h; exact ⟨p, h1, e _ _ h2⟩
theorem LayAt.ref {H : Hp} {v : V} {L : Lay} (h : LayAt H v L) : ∃ p, v = .ref p := by
  cases L with
  | pol ns => obtain ⟨p, h1, _⟩ := h; exact ⟨p, h1⟩
  | con w n => obtain ⟨p, h1, _⟩ := h; exact ⟨p, h1⟩
def NestAt (H : Hp) (q : Addr) (Ls : List Lay) : Prop := ∃ vs, H q = some (.lst vs) ∧ vs.length = Ls.length ∧ ∀ (i : Nat) v L, vs[i]? = some v → Ls[i]? = some L → LayAt H v L
theorem NestAt.same {H H' : Hp} {q : Addr} {Ls : List Lay} (h : NestAt H q Ls) (e : Same H H') : NestAt H' q Ls := by
  obtain ⟨vs, h1, h2, h3⟩ := h
  exact ⟨vs, e _ _ h1, h2, fun i v L a b => (h3 i v L a b).same e⟩
theorem LayAt.con_pos {L : Lay} (h : L.ok = true) : 1 ≤ L.cnt := by
  cases L with
  | pol ns => show (1 : Int) ≤ (ns.length : Int) + 1; omega
  | con w n =>
    unfold Lay.ok at h
    rw [Bool.and_eq_true] at h
    exact of_decide_eq_true h.2
def attOf (Ls : List Lay) : Int := Ls.foldl (fun t L => t * L.cnt) 1
def flatL (Ls : List Lay) : List Int := Ls.foldl (fun acc L => if L.cnt > 1 then nestL acc L.waits else acc) []
theorem nest_of {H : Hp} {q : Addr} {vs : List V} {Ls : List Lay} (h : H q = some (.lst vs)) (p : Paired (LayAt H) vs Ls) : NestAt H q Ls := by
  refine ⟨vs, h, Paired.length p, ?_⟩
  clear h
  induction p with
  | nil =>
    intro i v L h
    cases h
  | cons r t ih =>
    intro i v L h1 h2
    cases i with
    | zero =>
      cases h1
      cases h2
      exact r
    | succ i => exact ih i v L h1 h2
theorem flatL_eq : ∀ (Ls : List Lay) (acc : List Int), (∀ L ∈ Ls, L.ok = true) → Ls.foldl (fun acc L => if L.cnt > 1 then nestL acc L.waits else acc) acc = Ls.foldl (fun acc L => nestL acc L.waits) acc
  | [], _, _ => rfl
  | L :: Ls, acc, h => by
    have h1 := LayAt.con_pos (h L List.mem_cons_self)
    have e : (if L.cnt > 1 then nestL acc L.waits else acc) = nestL acc L.waits := by
      split
      · rfl
      · have hw : L.waits = [] := by
          cases L with
          | pol ns =>
            have : (ns.length : Int) + 1 = (Lay.pol ns).cnt := rfl
            exact List.length_eq_zero_iff.mp (by show ns.length = 0; omega)
          | con w n =>
            have : n = (Lay.con w n).cnt := rfl
            show List.replicate (n - 1).toNat w = []
            rw [show (n - 1).toNat = 0 by omega]
            rfl
        rw [hw, nestL_nil]
    rw [List.foldl_cons, List.foldl_cons, e]
    exact flatL_eq Ls _ fun M hM => h M (List.mem_cons_of_mem _ hM)
theorem flatL_fold {Ls : List Lay} (h : ∀ L ∈ Ls, L.ok = true) : flatL Ls = Ls.foldl (fun acc L => nestL acc L.waits) [] := flatL_eq Ls [] h
theorem nestL_assoc {α : Type} (xs ys zs : List α) : nestL (nestL xs ys) zs = nestL xs (nestL ys zs) := by
  unfold nestL
  rw [List.flatMap_append, List.append_assoc]
  congr 1
  congr 1
  induction zs with
  | nil => rfl
  | cons z zs ih =>
    simp only [List.flatMap_cons, List.flatMap_append, List.cons_append, List.append_assoc] at ih ⊢
    rw [ih]
theorem pol_ok {ns : List Int} (h : ∀ x ∈ ns, 0 ≤ x ∧ x < 1000000000000) : (Lay.pol ns).ok = true := by
  rw [Lay.ok_pol, List.all_eq_true]
  exact fun x hx => decide_eq_true (h x hx).1
theorem ne_no {ns ms : List Int} {A B : Prop} (h : ns = ms) (b : B) : if (!PyData.eqv (dInts ns) (dInts ms)) = true then A else B := by
  rw [eqv_ints, decide_eq_true h]
  exact iteF b

/-! ## rules of the written part in a comprehension's block -/
section
variable {X : Cx} {K : PySem.W.Frag}
theorem ix_listK (h : X.K = K) : IxR X (rIxL K) := by subst h; exact ix_list
theorem ix_tupK (h : X.K = K) : IxR X (rIxT K) := by subst h; exact ix_tup
theorem sl_listK (h : X.K = K) : SlR X (rSlL K) := by subst h; exact sl_list
theorem op_eqDK (h : X.K = K) (hu : X.A.units + 64 < cLine) : OpR X (compareOp .Eq) (rEqD K) := by subst h; exact op_eqD hu
theorem op_neDK (h : X.K = K) (hu : X.A.units + 64 < cLine) : OpR X (compareOp .NotEq) (rNeD K) := by subst h; exact op_neD hu
theorem op_in_seqK (h : X.K = K) : OpR X (compareOp .In) (rIn K false) := by subst h; exact op_in_seq
theorem op_notIn_seqK (h : X.K = K) : OpR X (compareOp .NotIn) (rIn K true) := by subst h; exact op_notIn_seq
theorem call_isiK1 (h : X.K = K) : CallR X (.builtin "isinstance") (rIsi K) := by subst h; exact call_isi
def rLenK (K : PySem.W.Frag) : List V → Hp → VK → Prop := fun xs H Q => ∃ p ys, xs = [.ref p] ∧ (SqL K H p ys ∨ SqT K H p ys) ∧ Q (.int (ys.length : Int)) H
theorem call_len_seqK (h : X.K = K) : CallR X (.builtin "len") (rLenK K) := by subst h; exact call_len_seq
def rListK (K : PySem.W.Frag) : List V → Hp → VK → Prop := fun xs H Q => ∃ p ys, xs = [.ref p] ∧ (SqL K H p ys ∨ SqT K H p ys) ∧ ∀ l, H l = none → Q (.ref l) (upd H l (.lst ys))
theorem call_list_ofK (h : X.K = K) : CallR X (.type "list") (rListK K) := by subst h; exact call_list_of
end
theorem refs_ints {ps : List Addr} {ws : List Int} (h : ps.map V.ref = ws.map V.int) : ps = [] := by
  cases ps with
  | nil => rfl
  | cons p ps =>
    cases ws with
    | nil => cases h
    | cons w ws =>
      injection h with h1 h2
      cases h1
theorem three {α : Type} {l : List α} (h : l.length = 3) : ∃ x y z, l = [x, y, z] := by
  match l, h with
  | [x, y, z], _ => exact ⟨x, y, z, rfl⟩
theorem ixN_at {n : Nat} {i : Int} (h0 : 0 ≤ i) (h1 : i < n) : ixN n i = some i.toNat := by
  unfold ixN
  rw [if_pos h0, if_pos h1]
theorem eq_yes {ns ms : List Int} (h : ns = ms) : PyData.eqv (dInts ns) (dInts ms) = true := by rw [eqv_ints, decide_eq_true h]
theorem nestL_cons {α : Type} (ns : List α) (m : α) (ms : List α) : nestL ns (m :: ms) = ns ++ m :: nestL ns ms := by
  unfold nestL
  rw [List.flatMap_cons, List.cons_append]
theorem nestL_get {α : Type} (ns : List α) : ∀ (ms : List α) (j : Nat), j < (nestL ns ms).length → (nestL ns ms)[j]? = if (j + 1) % (ns.length + 1) = 0 then ms[(j + 1) / (ns.length + 1) - 1]? else ns[(j + 1) % (ns.length + 1) - 1]?
  | [], j, h => by
    rw [nestL_nil] at h ⊢
    rw [Nat.mod_eq_of_lt (by omega), if_neg (by omega)]
    rfl
  | m :: ms, j, h => by
    rw [nestL_cons] at h ⊢
    by_cases h1 : j < ns.length
    · rw [List.getElem?_append_left h1, Nat.mod_eq_of_lt (by omega), if_neg (by omega)]
      rfl
    · by_cases h2 : j = ns.length
      · subst h2
        rw [List.getElem?_append_right (Nat.le_refl _), Nat.sub_self, Nat.mod_self, if_pos rfl, Nat.div_self (by omega)]
        rfl
      · obtain ⟨t, rfl⟩ : ∃ t, j = ns.length + 1 + t := ⟨j - (ns.length + 1), by omega⟩
        rw [List.getElem?_append_right (by omega), show ns.length + 1 + t - ns.length = t + 1 by omega, List.getElem?_cons_succ]
        rw [List.length_append, List.length_cons] at h
        rw [nestL_get ns ms t (by omega), show ns.length + 1 + t + 1 = (t + 1) + (ns.length + 1) by omega, Nat.add_mod_right, Nat.add_div_right _ (by omega)]
        by_cases h3 : (t + 1) % (ns.length + 1) = 0
        · rw [if_pos h3, if_pos h3, Nat.succ_sub_one]
          have : 1 ≤ (t + 1) / (ns.length + 1) := by
            have := Nat.div_add_mod (t + 1) (ns.length + 1)
            rw [h3] at this
            rcases Nat.eq_zero_or_pos ((t + 1) / (ns.length + 1)) with z | z
            · rw [z] at this
              omega
            · exact z
          obtain ⟨u, hu⟩ : ∃ u, (t + 1) / (ns.length + 1) = u + 1 := ⟨(t + 1) / (ns.length + 1) - 1, by omega⟩
          rw [hu]
          rfl
        · rw [if_neg h3, if_neg h3]
theorem foldl_nestL : ∀ (Ls : List Lay) (xs acc : List Int), Ls.foldl (fun acc L => nestL acc L.waits) (nestL xs acc) = nestL xs (Ls.foldl (fun acc L => nestL acc L.waits) acc)
  | [], _, _ => rfl
  | L :: Ls, xs, acc => by
    rw [List.foldl_cons, List.foldl_cons, nestL_assoc]
    exact foldl_nestL Ls xs (nestL acc L.waits)
theorem flatL_cons {L : Lay} {Ls : List Lay} (h : ∀ M ∈ L :: Ls, M.ok = true) : flatL (L :: Ls) = nestL L.waits (flatL Ls) := by
  rw [flatL_fold h, flatL_fold fun M hM => h M (List.mem_cons_of_mem _ hM), List.foldl_cons, nil_nestL]
  have := foldl_nestL Ls L.waits []
  rw [nestL_nil] at this
  exact this
/-- a nesting whose layers' objects are newer than H0 and none of them is the nesting's own list -/
def NestV (H0 G : Hp) (p : Addr) (vs : List V) (Ls : List Lay) : Prop := G p = some (.lst vs) ∧ vs.length = Ls.length ∧ (∀ (i : Nat) v L, vs[i]? = some v → Ls[i]? = some L → LayAt G v L) ∧ ∀ x, V.ref x ∈ vs → x ≠ p ∧ H0 x = none
theorem NestV.nest {H0 G : Hp} {p : Addr} {vs : List V} {Ls : List Lay} (h : NestV H0 G p vs Ls) : NestAt G p Ls := ⟨vs, h.1, h.2.1, h.2.2.1⟩
theorem NestV.same {H0 G G' : Hp} {p : Addr} {vs : List V} {Ls : List Lay} (h : NestV H0 G p vs Ls) (e : Same G G') : NestV H0 G' p vs Ls :=
  ⟨e _ _ h.1, h.2.1, fun i v L a b => (h.2.2.1 i v L a b).same e, h.2.2.2⟩
theorem NestV.nil {H0 G : Hp} {p : Addr} (h : G p = some (.lst [])) : NestV H0 G p [] [] := ⟨h, rfl, (fun _ _ _ z => nomatch z), (fun _ z => nomatch z)⟩
theorem LayAt.keep {G : Hp} {p : Addr} {o : HO} {v : V} {L : Lay} (h : LayAt G v L) (ne : ∀ x, v = V.ref x → x ≠ p) : LayAt (upd G p o) v L := by
  cases L with
  | pol ns => obtain ⟨x, e, z⟩ := h; exact ⟨x, e, by rw [upd_ne (ne x e)]; exact z⟩
  | con w n => obtain ⟨x, e, z⟩ := h; exact ⟨x, e, by rw [upd_ne (ne x e)]; exact z⟩
theorem NestV.push {H0 G : Hp} {p x : Addr} {vs : List V} {Ls : List Lay} {L : Lay} (h : NestV H0 G p vs Ls) (hx : LayAt G (.ref x) L) (ne : x ≠ p) (fr : H0 x = none) :
    NestV H0 (upd G p (.lst (vs ++ [.ref x]))) p (vs ++ [.ref x]) (Ls ++ [L]) := by
  obtain ⟨h1, h2, h3, h4⟩ := h
  refine ⟨upd_same, by rw [List.length_append, List.length_append, h2]; rfl, fun i v M a b => ?_, fun y hy => ?_⟩
  · by_cases hi : i < vs.length
    · rw [List.getElem?_append_left hi] at a
      rw [List.getElem?_append_left (by omega)] at b
      exact (h3 i v M a b).keep fun y e => (h4 y (e ▸ List.mem_of_getElem? a)).1
    · rw [List.getElem?_append_right (by omega)] at a
      rw [List.getElem?_append_right (by omega), ← h2] at b
      generalize i - vs.length = k at *
      cases k with
      | zero =>
        cases a
        cases b
        exact hx.keep fun y e => by cases e; exact ne
      | succ k => cases a
  · rcases List.mem_append.mp hy with z | z
    · exact h4 y z
    · have := List.mem_singleton.mp z
      cases this
      exact ⟨ne, fr⟩
/-- one of its lists of ints is changed in place, its length kept -/
theorem NestV.turn {H0 G : Hp} {p x : Addr} {vs : List V} {Ls : List Lay} {ws us : List Int} (h : NestV H0 G p vs Ls) (hx : G x = some (.lst (ws.map V.int))) (ne : x ≠ p) (hl : us.length = ws.length) :
    ∃ Ms : List Lay, NestV H0 (upd G x (.lst (us.map V.int))) p vs Ms ∧ Ms.map Lay.cnt = Ls.map Lay.cnt ∧ ∀ M ∈ Ms, M ∈ Ls ∨ (M = .pol us ∧ Lay.pol ws ∈ Ls) := by
  obtain ⟨h1, h2, h3, h4⟩ := h
  suffices key : ∀ (vs : List V) (Ls : List Lay), vs.length = Ls.length → (∀ (i : Nat) v L, vs[i]? = some v → Ls[i]? = some L → LayAt G v L) →
      ∃ Ms : List Lay, vs.length = Ms.length ∧ (∀ (i : Nat) v L, vs[i]? = some v → Ms[i]? = some L → LayAt (upd G x (.lst (us.map V.int))) v L) ∧ Ms.map Lay.cnt = Ls.map Lay.cnt ∧ ∀ M ∈ Ms, M ∈ Ls ∨ (M = .pol us ∧ Lay.pol ws ∈ Ls) by
    obtain ⟨Ms, k1, k2, k3, k4⟩ := key vs Ls h2 h3
    exact ⟨Ms, ⟨by rw [upd_ne ne.symm]; exact h1, k1, k2, h4⟩, k3, k4⟩
  clear h1 h2 h3 h4
  intro vs
  induction vs with
  | nil =>
    intro Ls hl _
    have : Ls = [] := List.length_eq_zero_iff.mp hl.symm
    subst this
    exact ⟨[], rfl, (fun _ _ _ z => nomatch z), rfl, (fun _ z => nomatch z)⟩
  | cons v vs ih =>
    intro Ls hlen hat
    cases Ls with
    | nil => cases hlen
    | cons L Ls =>
      obtain ⟨Ms, k1, k2, k3, k4⟩ := ih Ls (by simpa using hlen) fun i u M a b => hat (i + 1) u M a b
      have h0 := hat 0 v L rfl rfl
      by_cases e : v = V.ref x
      · subst e
        have hL : L = .pol ws := by
          cases L with
          | pol ns =>
            obtain ⟨y, e, z⟩ := h0
            cases e
            rw [hx] at z
            injection z with z
            injection z with z
            have : ∀ (as bs : List Int), as.map V.int = bs.map V.int → as = bs := by
              intro as
              induction as with
              | nil => intro bs q; cases bs with
                | nil => rfl
                | cons b bs => cases q
              | cons a as ih => intro bs q; cases bs with
                | nil => cases q
                | cons b bs =>
                  injection q with q1 q2
                  injection q1 with q1
                  rw [q1, ih bs q2]
            rw [this _ _ z]
          | con w n =>
            obtain ⟨y, e, z⟩ := h0
            cases e
            rw [hx] at z
            cases z
        refine ⟨.pol us :: Ms, by rw [List.length_cons, List.length_cons, k1], fun i u M a b => ?_, ?_, fun M hM => ?_⟩
        · cases i with
          | zero =>
            cases a
            cases b
            exact ⟨x, rfl, upd_same⟩
          | succ i => exact k2 i u M a b
        · rw [List.map_cons, List.map_cons, k3, hL]
          show ((us.length : Int) + 1) :: _ = ((ws.length : Int) + 1) :: _
          rw [hl]
        · rcases List.mem_cons.mp hM with z | z
          · exact .inr ⟨z, by rw [hL]; exact List.mem_cons_self⟩
          · rcases k4 M z with z | ⟨z1, z2⟩
            · exact .inl (List.mem_cons_of_mem _ z)
            · exact .inr ⟨z1, List.mem_cons_of_mem _ z2⟩
      · refine ⟨L :: Ms, by rw [List.length_cons, List.length_cons, k1], fun i u M a b => ?_, ?_, fun M hM => ?_⟩
        · cases i with
          | zero =>
            cases a
            cases b
            exact h0.keep fun y q z => e (by rw [q, z])
          | succ i => exact k2 i u M a b
        · rw [List.map_cons, List.map_cons, k3]
        · rcases List.mem_cons.mp hM with z | z
          · exact .inl (z ▸ List.mem_cons_self)
          · rcases k4 M z with z | ⟨z1, z2⟩
            · exact .inl (List.mem_cons_of_mem _ z)
            · exact .inr ⟨z1, List.mem_cons_of_mem _ z2⟩
theorem attOf_cnt : ∀ (Ls : List Lay) (t : Int), Ls.foldl (fun t L => t * L.cnt) t = (Ls.map Lay.cnt).foldl (fun t c => t * c) t
  | [], _ => rfl
  | L :: Ls, t => by
    rw [List.foldl_cons, List.map_cons, List.foldl_cons]
    exact attOf_cnt Ls _
theorem attOf_same {Ls Ms : List Lay} (h : Ms.map Lay.cnt = Ls.map Lay.cnt) : attOf Ms = attOf Ls := by
  unfold attOf
  rw [attOf_cnt, attOf_cnt, h]
/-- a layer that a law draws -/
def Lay.nice (L : Lay) : Prop := L.ok = true ∧ match L with
  | .pol ns => ns.length ≤ 60 ∧ ∀ x ∈ ns, 0 ≤ x ∧ x < 1000000000000
  | .con w n => w < 1000000000000 ∧ n < 1000000000000000000000
theorem Lay.nice_pol {ns : List Int} (h : ns.length ≤ 60) (hb : ∀ x ∈ ns, 0 ≤ x ∧ x < 1000000000000) : (Lay.pol ns).nice := ⟨pol_ok hb, h, hb⟩
theorem Lay.nice_con {w n : Int} (h0 : 0 ≤ w) (h1 : w < 1000000000000) (h2 : 1 ≤ n) (h3 : n < 1000000000000000000000) : (Lay.con w n).nice :=
  ⟨by rw [Lay.ok_con, decide_eq_true h0, decide_eq_true h2]; rfl, h1, h3⟩
theorem attOf_snoc (Ls : List Lay) (L : Lay) : attOf (Ls ++ [L]) = attOf Ls * L.cnt := by
  unfold attOf
  rw [List.foldl_append]
  rfl
theorem attOf_lt : ∀ n (Ls : List Lay), Ls.length = n → (∀ L ∈ Ls, L.ok = true ∧ L.cnt < 2 ^ 100) → 0 < attOf Ls ∧ (attOf Ls).natAbs < 2 ^ (100 * n + 1)
  | 0, Ls, e, _ => by
    have e' : Ls = [] := List.length_eq_zero_iff.mp e
    subst e'
    exact ⟨by decide, by decide⟩
  | n + 1, Ls, e, h => by
    have hne : Ls ≠ [] := fun z => by rw [z] at e; cases e
    obtain ⟨Ms, L, rfl⟩ : ∃ Ms L, Ls = Ms ++ [L] := ⟨_, _, (List.dropLast_concat_getLast hne).symm⟩
    rw [List.length_append] at e
    obtain ⟨i1, i2⟩ := attOf_lt n Ms (by simpa using e) fun M hM => h M (List.mem_append_left _ hM)
    obtain ⟨h1, h2⟩ := h L (List.mem_append_right _ List.mem_cons_self)
    have h3 := LayAt.con_pos h1
    rw [attOf_snoc]
    refine ⟨Int.mul_pos i1 (by omega), ?_⟩
    have z := wide_lt (i := attOf Ms) (j := L.cnt) (b := 100) i2 (by omega)
    rw [show 100 * (n + 1) + 1 = 100 * n + 1 + 100 by omega]
    exact z
theorem flatL_snoc (Ls : List Lay) (L : Lay) : flatL (Ls ++ [L]) = if L.cnt > 1 then nestL (flatL Ls) L.waits else flatL Ls := by
  unfold flatL
  rw [List.foldl_append]
  rfl
theorem waits_len {L : Lay} (h : L.ok = true) : (L.waits.length : Int) + 1 = L.cnt := by
  cases L with
  | pol ns => rfl
  | con w n =>
    have := LayAt.con_pos h
    have : 1 ≤ n := this
    show ((List.replicate (n - 1).toNat w).length : Int) + 1 = n
    rw [List.length_replicate]
    omega
theorem flatL_len : ∀ n (Ls : List Lay), Ls.length = n → (∀ L ∈ Ls, L.ok = true) → ((flatL Ls).length : Int) + 1 = attOf Ls
  | 0, Ls, e, _ => by
    have e' : Ls = [] := List.length_eq_zero_iff.mp e
    subst e'
    rfl
  | n + 1, Ls, e, h => by
    have hne : Ls ≠ [] := fun z => by rw [z] at e; cases e
    obtain ⟨Ms, L, rfl⟩ : ∃ Ms L, Ls = Ms ++ [L] := ⟨_, _, (List.dropLast_concat_getLast hne).symm⟩
    rw [List.length_append] at e
    have ih := flatL_len n Ms (by simpa using e) fun M hM => h M (List.mem_append_left _ hM)
    have h1 := h L (List.mem_append_right _ List.mem_cons_self)
    have h3 := LayAt.con_pos h1
    have h4 := waits_len h1
    rw [attOf_snoc, flatL_snoc, ← ih]
    split
    · have e5 := nestL_len (flatL Ms) L.waits
      rw [← h4]
      exact_mod_cast e5
    · have : L.cnt = 1 := by omega
      rw [this, Int.mul_one]
theorem attOf_part : ∀ (Ms Ls : List Lay), (∀ L ∈ Ls, L.ok = true) → (∀ L ∈ Ms, L.ok = true) → 1 ≤ attOf Ms ∧ attOf Ms ≤ attOf (Ms ++ Ls)
  | Ms, [], _, h => by
    rw [List.append_nil]
    refine ⟨?_, Int.le_refl _⟩
    have := flatL_len _ Ms rfl h
    omega
  | Ms, L :: Ls, h0, h => by
    have h1 := attOf_part (Ms ++ [L]) Ls (fun M hM => h0 M (List.mem_cons_of_mem _ hM)) (fun M hM => by
      rcases List.mem_append.mp hM with z | z
      · exact h M z
      · rw [List.mem_singleton.mp z]
        exact h0 L List.mem_cons_self)
    rw [List.append_assoc] at h1
    have h2 := LayAt.con_pos (h0 L List.mem_cons_self)
    have h3 := flatL_len _ Ms rfl h
    rw [attOf_snoc] at h1
    have h4 : attOf Ms * 1 ≤ attOf Ms * L.cnt := Int.mul_le_mul_of_nonneg_left h2 (by omega)
    refine ⟨by omega, ?_⟩
    have h5 : attOf Ms * L.cnt ≤ attOf (Ms ++ ([L] ++ Ls)) := h1.2
    have h6 : Ms ++ L :: Ls = Ms ++ ([L] ++ Ls) := rfl
    rw [h6]
    omega
theorem cnt_le {Ls : List Lay} (h : ∀ L ∈ Ls, L.ok = true) {L : Lay} (hL : L ∈ Ls) : L.cnt ≤ attOf Ls := by
  obtain ⟨As, Bs, rfl⟩ := List.append_of_mem hL
  have h1 := attOf_part As [] (fun _ z => nomatch z) (fun M hM => h M (List.mem_append_left _ hM))
  have h2 := attOf_part (As ++ [L]) Bs (fun M hM => h M (List.mem_append_right _ (List.mem_cons_of_mem _ hM))) (fun M hM => by
    rcases List.mem_append.mp hM with z | z
    · exact h M (List.mem_append_left _ z)
    · rw [List.mem_singleton.mp z]
      exact h L hL)
  have h3 := LayAt.con_pos (h L hL)
  rw [attOf_snoc, List.append_assoc] at h2
  have h4 : 1 * L.cnt ≤ attOf As * L.cnt := Int.mul_le_mul_of_nonneg_right h1.1 (by omega)
  have h5 : attOf As * L.cnt ≤ attOf (As ++ ([L] ++ Bs)) := h2.2
  have h6 : As ++ L :: Bs = As ++ ([L] ++ Bs) := rfl
  rw [h6]
  omega
theorem attOf_pos {Ls : List Lay} (h : ∀ L ∈ Ls, L.ok = true) : 1 ≤ attOf Ls := (attOf_part Ls [] (fun _ z => nomatch z) h).1
theorem part_left {t c left most : Int} (ht : 1 ≤ t) (hc : 1 ≤ c) (hl : c ≤ left) (h : t * left ≤ most) : 1 ≤ left / c ∧ t * c * (left / c) ≤ most := by
  refine ⟨by rw [Int.le_ediv_iff_mul_le (by omega)]; omega, ?_⟩
  have h1 : c * (left / c) ≤ left := by
    have := Int.mul_ediv_add_emod left c
    have := Int.emod_nonneg left (show c ≠ 0 by omega)
    omega
  rw [Int.mul_assoc]
  exact Int.le_trans (Int.mul_le_mul_of_nonneg_left h1 (by omega)) h
theorem le_left {t left most : Int} (ht : 1 ≤ t) (hl : 1 ≤ left) (h : t * left ≤ most) : t ≤ most := by
  have : t * 1 ≤ t * left := Int.mul_le_mul_of_nonneg_left hl (by omega)
  omega
theorem rep_flat {α : Type} (x : α) : ∀ m : Nat, (List.replicate m [x]).flatten = List.replicate m x
  | 0 => rfl
  | m + 1 => by
    rw [List.replicate_succ, List.flatten_cons, rep_flat x m, List.replicate_succ]
    rfl
def Lay.dat : Lay → PyData
  | .pol ns => dInts ns
  | .con w n => .tuple [.int w, .int n]
theorem dp_lay {K : PySem.W.Frag} {G : Hp} {v : V} {L : Lay} (h : LayAt G v L) : Dp K G v L.dat := by
  cases L with
  | pol ns => obtain ⟨p, rfl, hp⟩ := h; exact dp_ints (sql hp)
  | con w n => obtain ⟨p, rfl, hp⟩ := h; exact .tup (sqt hp) (.cons (.int w) (.cons (.int n) .nil))
theorem dp_lays {K : PySem.W.Frag} {G : Hp} : ∀ (vs : List V) (Ls : List Lay), vs.length = Ls.length → (∀ (i : Nat) v L, vs[i]? = some v → Ls[i]? = some L → LayAt G v L) → DpAll K G vs (Ls.map Lay.dat)
  | [], [], _, _ => .nil
  | [], _ :: _, h, _ => by cases h
  | _ :: _, [], h, _ => by cases h
  | v :: vs, L :: Ls, h, hat => .cons (dp_lay (hat 0 v L rfl rfl)) (dp_lays vs Ls (by simpa using h) fun i u M a b => hat (i + 1) u M a b)
theorem dp_nest {K : PySem.W.Frag} {G : Hp} {p : Addr} {Ls : List Lay} (h : NestAt G p Ls) : Dp K G (.ref p) (.list (Ls.map Lay.dat)) := by
  obtain ⟨vs, h1, h2, h3⟩ := h
  exact .lst (sql h1) (dp_lays vs Ls h2 h3)
theorem cut_one (xs : List V) : cutV xs none (some 1) = xs.take 1 := by
  unfold cutV
  rw [HT.sIx_none, show HT.sIx xs.length xs.length (some 1) = min 1 xs.length from HT.sIx_nat xs.length _ 1]
  cases xs with
  | nil => rfl
  | cons x r =>
    rw [show min 1 (x :: r).length = 1 by rw [List.length_cons]; omega]
    rfl
theorem flatL_con {w n : Int} (h0 : 0 ≤ w) (h1 : 1 ≤ n) : flatL [.con w n] = List.replicate (n - 1).toNat w := by
  rw [flatL_fold fun L hL => by rw [List.mem_singleton.mp hL, Lay.ok_con, decide_eq_true h0, decide_eq_true h1]; rfl]
  show nestL [] (List.replicate (n - 1).toNat w) = _
  rw [nil_nestL]
theorem NestV.low {H0 G : Hp} {a d p : Addr} {us : List V} {Ls : List Lay} (hv : NestV H0 (hid a d G) p us Ls) : NestAt G p Ls := by
  obtain ⟨z1, z2, z3, _⟩ := hv
  refine ⟨us, (hid_get z1).1, z2, fun i v L x y => ?_⟩
  have := z3 i v L x y
  cases L with
  | pol ns => obtain ⟨p, e, z⟩ := this; exact ⟨p, e, (hid_get z).1⟩
  | con w n => obtain ⟨p, e, z⟩ := this; exact ⟨p, e, (hid_get z).1⟩
theorem nice_cnt {L : Lay} (h : L.nice) : L.cnt < 2 ^ 100 := by
  obtain ⟨h0, h1⟩ := h
  cases L with
  | pol ns =>
    obtain ⟨h1, _⟩ := h1
    show (ns.length : Int) + 1 < 2 ^ 100
    omega
  | con w n =>
    obtain ⟨_, h1⟩ := h1
    show n < 2 ^ 100
    omega
theorem cut_n (xs : List V) (n : Nat) : cutV xs none (some (n : Int)) = xs.take n := by
  unfold cutV
  rw [HT.sIx_none, show HT.sIx xs.length xs.length (some (n : Int)) = min n xs.length from HT.sIx_nat xs.length _ n]
  show (xs.drop 0).take (min n xs.length - 0) = _
  rw [List.drop_zero, Nat.sub_zero]
  by_cases h : n ≤ xs.length
  · rw [Nat.min_eq_left h]
  · rw [Nat.min_eq_right (by omega), List.take_length, List.take_of_length_le (by omega)]
theorem cut_to (xs : List V) (n : Nat) : cutV xs (some (n : Int)) none = xs.drop n := by
  unfold cutV
  rw [HT.sIx_none, show HT.sIx xs.length 0 (some (n : Int)) = min n xs.length from HT.sIx_nat xs.length _ n]
  by_cases h : n ≤ xs.length
  · rw [Nat.min_eq_left h]
    exact List.take_of_length_le (by rw [List.length_drop]; omega)
  · rw [Nat.min_eq_right (by omega), List.drop_eq_nil_of_le (Nat.le_refl _), List.drop_eq_nil_of_le (by omega)]
    exact List.take_nil
theorem ne_same {d : PyData} {A B : Prop} (h : d.canLay0 = true) (b : B) : if (!PyData.eqv d d) = true then A else B := by
  rw [eqv_refl' d h]
  exact iteF b
theorem ne_val {x y : V} {A B : Prop} (h : x = y) (b : B) : if (!decide (x = y)) = true then A else B := by
  rw [h, decide_eq_true rfl]
  exact iteF b
end Rn

set_option Elab.async false
set_option linter.all false
set_option maxRecDepth 100000
set_option maxHeartbeats 4000000
namespace Rn
open PySem PySem.Spec PyProof.Rows L2
/-! ## repr of data; a law entered where no list is being shown -/
section
variable {X : Cx} {K : PySem.W.Frag}
def rRepr (K : PySem.W.Frag) : List V → Hp → VK → Prop := fun xs H Q => ∃ (p : Addr) (d : PyData), xs = [.ref p] ∧ Dp K H (.ref p) d ∧ d.showable = true ∧ d.hasDict = false ∧ d.depth ≤ 50 ∧ d.shown.length ≤ sizeLine ∧ Q (.str d.shown) H
theorem call_repr {k : Nat} (hg : X.A.guards = some []) (hr : Room k X.A) : CallR X (.builtin "repr") (rRepr X.K) := by
  intro pins s σ H xs us Q I r h
  obtain ⟨p, d, rfl, hd, hs, hh, hdep, hz, q⟩ := h
  cases r with
  | cons r1 r2 =>
    cases r2
    cases r1
    obtain ⟨as, rd⟩ := Dp.reads I d _ _ hd rfl
    have hu := hr.units
    exact repr_of_reads' rd hs (PyData.noDict_hsm hh) hg (by omega) (fun _ _ e => e) (fun h' u tk hk => ⟨.str d.shown, H, I.kept (t' := tk) hk, ⟨u, rfl⟩, q⟩) hz
end
section
variable {P : Program} {w : World} {K : PySem.W.Frag} {mg : Str → Option Value} {base : Heap}
/-- a promise that is kept wherever nothing is being shown -/
def FnG (P : Program) (w : World) (K : PySem.W.Frag) (mg : Str → Option Value) (base : Heap) (k : Nat) (f : Addr) (fd : FuncData) (ps : List Str) (sp : Sp) : Prop :=
  ∀ (A : Around) (outer : List Env) (s : Shared) (H : Hp) (args : Args) (us : List Value) (vs : List V) (Q : VK) (E : XK), A.guards = some [] → Room k A → Env0 P w K mg base A outer s H →
    BindsTo s fd args (ps.zip us) → Vals vs us → vs.length = ps.length → sp vs H Q E → codeAny (model P w) A (.call (.ref f) args) (CR CX0 outer P w H s Q E) s
theorem okG {x qual : Str} {st : Stmt} {f : Addr} {fd : FuncData} {N ps : List Str} {k : Nat} {sp : Sp} (F : Fun K x qual st f fd) (S : FnScope N ps (defScope st))
    (hbody : ∀ (cdv : Value) (A : Around) (outer : List Env) (s : Shared) (H : Hp) (vs : List V) (Q : VK) (E : XK), A.guards = some [] → Room k (A.deeper (envOfC qual (defScope st) s.heap.objs.size f cdv)) → sp vs H Q E →
      ∃ t, PSs (cxOf CX0 P w K mg base N qual (defScope st) f cdv A outer s H E).nox (defBody st) t ∧ t { nx := fun _ H' => Q .non H', rt := Q } (start N vs) H) :
    FnG P w K mg base (k + 1) f fd ps sp := by
  obtain ⟨oc, od, kV, doc, pm, an, cdv, ct, osl, efd, look, code⟩ := F.ex
  subst efd
  intro A outer s H args us vs Q E guard room e0 bind rel hlen want
  have same : ∀ b o, base.get? b = some o → s.heap.get? b = some o := fun b o z => (e0.bs b o z).1
  refine Att.call_fn (e0.mod.kin.keeps same) (e0.mod.nolimit.keeps same) look code room.depth bind ?_ (fun s1 x1 => ?_) S.co S.gen S.kind
  · rw [List.all_eq_true]
    rintro ⟨n, v⟩ hm
    rcases S.par n (List.of_mem_zip hm).1 with z | z
    · simp [z]
    · simp [z]
  obtain ⟨t, ht, hq⟩ := hbody cdv A outer s H vs Q E guard (room.deeper _) want
  have start0 : Inv (cxOf CX0 P w K mg base N qual (defScope st) f cdv A outer s H E) [] (start N vs) H s1 := inv_start S room.hd e0 hlen rel x1
  refine wpAny_mono (ht.nox.run [] s1 _ H _ start0 hq) (fun flow s2 done => ?_) (fun _ _ z => z)
  cases flow with
  | brk => exact (by obtain ⟨_, _, _, z⟩ := done; exact False.elim z)
  | cont => exact (by obtain ⟨_, _, _, z⟩ := done; exact False.elim z)
  | next =>
    obtain ⟨_, H2, J, z⟩ := done
    exact ⟨.non, H2, J.os, J.bare, J.base, J.hok, rfl, z⟩
  | ret u =>
    obtain ⟨v, _, H2, J, rv, z⟩ := done
    exact ⟨v, H2, J.os, J.bare, J.base, J.hok, rv, z⟩
/-- the heap's view at a law's entry: the script is known to the object, unless it is one of the text's own -/
def seen (K : PySem.W.Frag) (a : Addr) (vs : List Value) (ns : List Int) : Hp := fun b =>
  if b = a ∧ K.lookup a = none then some (.frz { cls := .type "list", data := .seq vs.toArray } (.lst (ns.map V.int))) else none
theorem seen_some {a b : Addr} {vs : List Value} {ns : List Int} {o : HO} (h : seen K a vs ns b = some o) : b = a ∧ K.lookup a = none ∧ o = .frz { cls := .type "list", data := .seq vs.toArray } (.lst (ns.map V.int)) := by
  unfold seen at h
  by_cases z : b = a ∧ K.lookup a = none
  · rw [if_pos z] at h
    exact ⟨z.1, z.2, (Option.some.inj h).symm⟩
  · rw [if_neg z] at h
    cases h
theorem law_at {mb : Str → Option Value} {fa a : Addr} {s1 : Shared} {vs : List Value} {ns : List Int} (hK : K.In s1.heap) (hmg : s1.heap.Ns mainGlobals mg) (hmb : s1.heap.Ns builtinsNs mb)
    (hbo : ∀ x : Str, x ≠ "__name__" → mb x = bootBuiltins x) (lim : s1.heap.NoLimit) (gens : s1.gens = #[]) (here : s1.heap.get? a = some { cls := .type "list", data := .seq vs.toArray }) (nums : IntsAre vs ns) (few : ns.length ≤ 63)
    (run : ∀ (base : Heap) (H : Hp), K.In base → base.Ns mainGlobals mg → Env0 P w K mg base callerA [] s1 H → SqL K H a (ns.map V.int) → codeAny (model P w) callerA (.call (.ref fa) ⟨[.ref a], []⟩) (CR CX0 [] P w H s1 (fun v _ => v = .bl true) E0) s1) :
    codeAny (model P w) callerA (.call (.ref fa) ⟨[.ref a], []⟩) (fun r s' => r = .ok (.ret (.bool true)) ∧ OldK s1.heap s'.heap ∧ s'.os = s1.os ∧ AllBare s'.gens) s1 := by
  have rel := vals_ints nums
  have cnt := nums.length
  have notDict : ∀ {b : Addr} {m : Str → Option Value}, s1.heap.Ns b m → seen K a vs ns b = none := fun {b m} z => by
    obtain ⟨o, es, ep, e, d, _⟩ := z
    cases q : seen K a vs ns b with
    | none => rfl
    | some u =>
      obtain ⟨eb, _, _⟩ := seen_some q
      rw [eb, here] at e
      cases e
      cases d
  have shift : ∀ {b : Addr} {m : Str → Option Value}, s1.heap.Ns b m → (hidT s1.heap (seen K a vs ns)).Ns b m := fun z => by
    have n := notDict z
    obtain ⟨o, es, ep, e, r⟩ := z
    exact ⟨o, es, ep, hidT_get e n, r⟩
  have kin : K.In (hidT s1.heap (seen K a vs ns)) := fun b o e => hidT_get (hK b o e) (by
    cases q : seen K a vs ns b with
    | none => rfl
    | some u =>
      obtain ⟨eb, en, _⟩ := seen_some q
      rw [eb, en] at e
      cases e)
  have hok : HOk P w (seen K a vs ns) s1.heap := fun b o e => by
    obtain ⟨rfl, _, rfl⟩ := seen_some e
    exact ⟨here, size_le (by rw [List.length_map]; omega), vs, _, rel, here⟩
  have env : Env0 P w K mg (hidT s1.heap (seen K a vs ns)) callerA [] s1 (seen K a vs ns) :=
    ⟨rfl, ⟨kin, shift hmg, ⟨mb, shift hmb, hbo⟩, by obtain ⟨mc, z1, z2⟩ := lim; exact ⟨mc, shift z1, z2⟩⟩, fun b o e => of_hidT e, Nat.le_of_eq (hidT_size _ _), trivial, (fun b z => nomatch z), hok, .of_eq gens⟩
  have script : SqL K (seen K a vs ns) a (ns.map V.int) := by
    cases q : K.lookup a with
    | none => exact .inl (.inr ⟨_, if_pos ⟨rfl, q⟩⟩)
    | some o =>
      have e := hK a o q
      rw [here] at e
      cases e
      exact .inr ⟨_, vs.toArray, _, q, rfl, rfl, rfl, by rw [List.size_toArray, cnt]; exact size_le (by omega), by simpa using rel⟩
  refine codeAny_mono (run _ _ kin (shift hmg) env script) fun r s' z => ?_
  cases r with
  | error e => exact False.elim z
  | ok flow =>
    cases flow with
    | brk => exact False.elim z
    | cont => exact False.elim z
    | next => exact False.elim z
    | ret u =>
      obtain ⟨v, H', os, bare, un, hok', rv, (rfl : v = .bl true)⟩ := z
      cases (show u = Value.bool true from rv)
      refine ⟨rfl, OldK.of_keep fun b o e => ?_, os, bare⟩
      cases q : seen K a vs ns b with
      | none => exact un.keep b o e q (fun z => nomatch z) (fun z => nomatch z)
      | some y =>
        obtain ⟨_, _, rfl⟩ := seen_some q
        obtain ⟨e2, _⟩ := hok' b _ (un.frzs b _ _ q)
        obtain ⟨e1, _⟩ := hok b _ q
        rw [e] at e1
        cases e1
        exact e2
end
/-- the walk's end for a law that shows lists -/
theorem walk_G {l : PySem.W.OpenLaw} {k : Nat} {q : Program} {loose : List Str} {XP : (Str → Option Value) → Heap → Prop} {YP : World → Heap → Prop} {d : DefRec} {K : Params → PySem.W.Frag} {sp : PySem.W.Frag → Sp}
    (hn : l.most = some 63) (hdf : d.params.defaults = []) (hr : Room k callerA) (hY : ∀ (w : World) (h : Heap), YP w h → (K w.params).In h)
    (F : ∀ (w : World) (mg : Str → Option Value) (fa : Addr) (h : Heap), (K w.params).In h → h.Ns mainGlobals mg → mg d.name = some (.ref fa) →
      ∃ fd : FuncData, (∀ (s : Shared) (u : Value), BindsTo s fd ⟨[u], []⟩ [("script", u)]) ∧ ∀ base : Heap, (K w.params).In base → base.Ns mainGlobals mg → FnG l.prog w (K w.params) mg base k fa fd ["script"] (sp (K w.params)))
    (hsp : ∀ (K : PySem.W.Frag) (H : Hp) (a : Addr) (ns : List Int), ns.length ≤ 63 → SqL K H a (ns.map V.int) → sp K [.ref a] H (fun v _ => v = .bl true) E0) :
    PySem.W.WalkO q loose XP YP l.row.toRowW d [] (fun f vs => PySem.call f vs) := by
  refine Att.attach_call hn hdf fun w s0 s1 mg mb fa o pm cd doc a vs ns G Y _ _ _ hmg here nums few gens => ?_
  obtain ⟨fd, bind, run⟩ := F w mg fa _ (hY w _ Y) G.T.g hmg
  exact law_at (hY w _ Y) G.T.g G.T.b G.T.builtins G.T.nolimit gens here nums few fun base H kin ns1 env script =>
    run base kin ns1 callerA [] s1 H _ [.ref a] [.ref a] _ _ rfl hr env (bind s1 (.ref a)) (.cons rfl .nil) rfl (hsp _ H a ns few script)
end Rn
namespace Rn
open PySem PySem.Spec PyProof.Rows L2
/-! ## calls by keywords alone -/
def tCallKw (sp : Sp) (gV : List V → List V → List V) (E : XK) (tk : TA) : TE := fun σ H Q => tk σ H fun zs H1 => sp (gV [] zs) H1 Q E
section
variable {X : Cx} {CX : CXT} {k : Nat} {f : Addr} {fd : FuncData} {ps ks : List Str} {sp : Sp} {E : XK} {x : Str} {p pos : Pos} {kws : List Keyword} {tk : TA} {g : List Value → List Value → List Value} {gV : List V → List V → List V}
theorem pe_callKw (F : FnOk X.prog X.w X.K X.mg X.base CX k f fd ps sp) (room : Room k X.A) (hg : Gl X x) (here : X.mg x = some (.ref f)) (keep : PySem.W.keepIn X.K (.ref f) = true) (bind : KBinds X.K fd ps ks g gV) (out : Passes CX X E)
    (hkw : PK X kws tk) (named : (backToKw pos (keywordEach kws X.env)).all (·.1.isSome) = true := by rfl) (order : (backToKw pos (keywordEach kws X.env)).filterMap (·.1) = ks := by rfl)
    (nodebug : (x == ("__debug__" : Str)) = false := by decide) (plain : ((backTo pos (starEach [] X.env)).any (·.1) || (backToKw pos (keywordEach kws X.env)).any (·.1.isNone)) = false := by rfl) :
    PE X (.Call (.Name x p) [] kws pos) (tCallKw sp gV E tk) := by
  constructor
  intro pins s σ H Q I h
  refine wpAny_Call_Name_kw (ld_glob I hg here ?_ nodebug)
  refine PySem.W.callWith_KW0 (h₀ := X.base) I.ok.mod.kin keep named (thn (hkw.run pos pins s σ H _ I h) fun ws s2 z => ?_) plain
  obtain ⟨zs, H2, I2, rz, q2⟩ := z
  rw [order]
  exact ⟨I2.kIn, run_fnk (us := []) (vs := []) F room bind out I2 .nil rz q2⟩
end
def kw1 {α : Type} : List α → List α → List α
  | [], [a] => [a]
  | _, _ => []
def kw2r {α : Type} : List α → List α → List α
  | [], [a, b] => [b, a]
  | _, _ => []
section
variable {K : PySem.W.Frag} {fd : FuncData} {p q : Str}
theorem kb1 (h : ∀ (s : Shared) (a : Value), BindsTo s fd ⟨[], [(p, a)]⟩ [(p, a)]) : KBinds K fd [p] [p] kw1 kw1 := by
  refine ⟨fun s us ws _ hl => ?_, fun {vs us zs ws} r1 r2 => ?_⟩
  · match us, ws, hl with
    | [], [a], _ => exact h s a
  · cases r1 with
    | cons _ _ => exact .nil
    | nil =>
      cases r2 with
      | nil => exact .nil
      | cons a r =>
        cases r with
        | nil => exact .cons a .nil
        | cons _ _ => exact .nil
theorem kb2r (h : ∀ (s : Shared) (a b : Value), BindsTo s fd ⟨[], [(q, a), (p, b)]⟩ [(p, b), (q, a)]) : KBinds K fd [p, q] [q, p] kw2r kw2r := by
  refine ⟨fun s us ws _ hl => ?_, fun {vs us zs ws} r1 r2 => ?_⟩
  · match us, ws, hl with
    | [], [a, b], _ => exact h s a b
  · cases r1 with
    | cons _ _ => exact .nil
    | nil =>
      cases r2 with
      | nil => exact .nil
      | cons a r =>
        cases r with
        | nil => exact .nil
        | cons b r =>
          cases r with
          | nil => exact .cons b (.cons a .nil)
          | cons _ _ => exact .nil
end
/-! ## data that can be shown -/
structure Shw (d : PyData) (W D : Nat) : Prop where
  show1 : d.showable = true
  plain : d.hasDict = false
  short : d.leavesShort 25 = true
  heavy : d.weight ≤ W
  deep : d.depth ≤ D
theorem Shw.fits {d : PyData} {W D : Nat} (s : Shw d W D) (h : W ≤ 500000) : d.shown.length ≤ sizeLine := by
  have h1 := PyData.shown_le 25 (by decide) d s.short
  have h2 := s.heavy
  have h3 : (25 + 2) * d.weight ≤ 27 * 500000 := Nat.mul_le_mul (by decide) (by omega)
  rw [sizeLine_eq]
  omega
theorem log_lt {i : Int} (h : i.natAbs < 10 ^ 24) : i.natAbs.log2 < 80 := PySem.Flt.log2_lt_of (k := 80) (by decide) (Nat.lt_trans h (by decide))
theorem Shw.int {i : Int} (h : i.natAbs < 10 ^ 24) : Shw (.int i) 80 1 := by
  have h1 := log_lt h
  refine ⟨?_, rfl, ?_, ?_, ?_⟩
  · simp only [PyData.showable, decide_eq_true_eq]
    omega
  · simp only [PyData.leavesShort, decide_eq_true_eq]
    have e := int_text_length_le10 (k := 24) (by decide) h
    show (Str.ofString (toString i)).length ≤ 25
    rw [PySem.ofString_length]
    exact e
  · simp only [PyData.weight]
    split
    · omega
    · omega
  · simp only [PyData.depth]
    omega
theorem Shw.all {W D : Nat} : ∀ ds : List PyData, (∀ d ∈ ds, Shw d W D) → PyData.showableAll ds = true ∧ PyData.hasDictAll ds = false ∧ PyData.leavesShortAll 25 ds = true ∧ PyData.weightAll ds ≤ ds.length * (W + 1) ∧ PyData.depthAll ds ≤ D
  | [], _ => ⟨rfl, rfl, rfl, Nat.zero_le _, Nat.zero_le _⟩
  | d :: ds, h => by
    obtain ⟨a1, a2, a3, a4, a5⟩ := Shw.all ds fun e he => h e (List.mem_cons_of_mem _ he)
    obtain ⟨b1, b2, b3, b4, b5⟩ := h d List.mem_cons_self
    refine ⟨?_, ?_, ?_, ?_, ?_⟩
    · simp only [PyData.showableAll, b1, a1, Bool.and_self]
    · simp only [PyData.hasDictAll, b2, a2, Bool.or_self]
    · simp only [PyData.leavesShortAll, b3, a3, Bool.and_self]
    · simp only [PyData.weightAll, List.length_cons, Nat.succ_mul]
      omega
    · simp only [PyData.depthAll]
      omega
theorem Shw.list {W D : Nat} {ds : List PyData} (h : ∀ d ∈ ds, Shw d W D) : Shw (.list ds) (ds.length * (W + 1)) (D + 1) := by
  obtain ⟨a1, a2, a3, a4, a5⟩ := Shw.all ds h
  exact ⟨by simpa only [PyData.showable] using a1, by simpa only [PyData.hasDict] using a2, by simpa only [PyData.leavesShort] using a3, by simpa only [PyData.weight] using a4, by simp only [PyData.depth]; omega⟩
theorem Shw.tuple {W D : Nat} {ds : List PyData} (h : ∀ d ∈ ds, Shw d W D) : Shw (.tuple ds) (ds.length * (W + 1)) (D + 1) := by
  obtain ⟨a1, a2, a3, a4, a5⟩ := Shw.all ds h
  exact ⟨by simpa only [PyData.showable] using a1, by simpa only [PyData.hasDict] using a2, by simpa only [PyData.leavesShort] using a3, by simpa only [PyData.weight] using a4, by simp only [PyData.depth]; omega⟩
theorem Shw.mono {d : PyData} {W W' D D' : Nat} (s : Shw d W D) (h : W ≤ W') (h' : D ≤ D') : Shw d W' D' := ⟨s.1, s.2, s.3, Nat.le_trans s.4 h, Nat.le_trans s.5 h'⟩
theorem Shw.nums {ns : List Int} (h : ∀ x ∈ ns, x.natAbs < 10 ^ 24) : Shw (dInts ns) (ns.length * 81) 2 := by
  have := Shw.list (ds := ns.map .int) (W := 80) (D := 1) fun d hd => by
    obtain ⟨x, hx, rfl⟩ := List.mem_map.mp hd
    exact Shw.int (h x hx)
  rw [List.length_map] at this
  exact this
theorem Shw.two {d e : PyData} {W D : Nat} (h1 : Shw d W D) (h2 : Shw e W D) : Shw (.list [d, e]) (2 * (W + 1)) (D + 1) :=
  Shw.list (ds := [d, e]) fun x hx => by
    simp only [List.mem_cons, List.not_mem_nil, or_false] at hx
    rcases hx with rfl | rfl
    · exact h1
    · exact h2
theorem ne_str {x y : Str} {A B : Prop} (h : x = y) (b : B) : if (!decide (V.str x = V.str y)) = true then A else B := by
  rw [h, decide_eq_true rfl]
  exact iteF b
theorem Shw.lay {L : Lay} (h : L.nice) : Shw L.dat 4860 2 := by
  obtain ⟨h0, h1⟩ := h
  cases L with
  | pol ns =>
    obtain ⟨h1, h2⟩ := h1
    exact (Shw.nums fun x hx => by have := h2 x hx; omega).mono (by omega) (Nat.le_refl _)
  | con w n =>
    obtain ⟨h1, h2⟩ := h1
    have h3 := LayAt.con_pos h0
    have h3 : 1 ≤ n := h3
    rw [Lay.ok_con, Bool.and_eq_true] at h0
    have h4 := of_decide_eq_true h0.1
    refine (Shw.tuple (ds := [.int w, .int n]) (W := 80) (D := 1) fun d hd => ?_).mono (by show 2 * 81 ≤ 4860; decide) (Nat.le_refl _)
    simp only [List.mem_cons, List.not_mem_nil, or_false] at hd
    rcases hd with rfl | rfl
    · exact Shw.int (by omega)
    · exact Shw.int (by omega)
theorem Shw.nest {Ls : List Lay} {m : Nat} (h : ∀ L ∈ Ls, L.nice) (hl : Ls.length ≤ m) : Shw (.list (Ls.map Lay.dat)) (m * 4861) 3 := by
  refine (Shw.list (ds := Ls.map Lay.dat) (W := 4860) (D := 2) fun d hd => ?_).mono (by rw [List.length_map]; exact Nat.mul_le_mul_right _ hl) (Nat.le_refl _)
  obtain ⟨L, hL, rfl⟩ := List.mem_map.mp hd
  exact Shw.lay (h L hL)
end Rn

set_option Elab.async false
set_option linter.all false
set_option maxRecDepth 100000
set_option maxHeartbeats 4000000
/-! # own errors over ValueError: super().__init__('..'), then self.value = value -/
namespace PySem
namespace VeX
open PySem.W PySem.Calls PyProof.Rows PySem.HandSPX
def iA (p1 p2 : Pos) : Arguments := { posonlyargs := [], args := [{ arg := "self", annotation := none, pos := p1 }, { arg := "value", annotation := none, pos := p2 }], vararg := none, kwonlyargs := [], kw_defaults := [], kwarg := none, defaults := [] }
def iB (msg : Str) (q1 q2 q3 q4 q5 q6 q7 q8 q9 q10 : Pos) : List Stmt :=
  [.Expr (.Call (.Attribute (.Call (.Name "super" q1) [] [] q2) "__init__" q3) [.Constant (.str msg) 0 q4] [] q5) q6, .Assign [.Attribute (.Name "self" q7) "value" q8] (.Name "value" q9) q10]
def iS : Scope := { kind := .function, names := [(PySem.Str.ofString "self", .local), (PySem.Str.ofString "value", .local), (PySem.Str.ofString "__class__", .free), (PySem.Str.ofString "super", .globalImplicit)], isGenerator := false, isCoroutine := false, more := [] }
/-- what the written part says of the class named xn, at C, and of its __init__, at fI -/
structure VeTxt (prog : Program) (K : Frag) (mg : Str → Option Value) (xn : Str) (C fI : Addr) : Prop where
  gC : mg xn = some (.ref C)
  gS : mg "super" = none
  cls : ∃ nm q N bs bm sn sub ab col dd k0 k1 k2 k3 k5, K.lookup C = some (excClassObj nm q C N bs bm true sn sub ab col dd k0 k1 k2 k3 k5 "ValueError.__new__") ∧ refsVE bm = true
  sa : findIn K (.ref C) "__setattr__" = some (some (.builtin "object.__setattr__"))
  ga : findIn K (.ref C) "__getattribute__" = some (some (.builtin "BaseException.__getattribute__"))
  gg : findIn K (.ref C) "__getattr__" = some none
  noN : findIn K (.ref C) "value" = some none
  iC : findIn K (.ref C) "__init__" = some (some (.ref fI))
  tC : typeIn K (.ref fI) = some (.type "function")
  kC : keepIn K (.ref C) = true
  exC : subIn K (.ref C) (.type "BaseException") = some true
  veC : subIn K (.ref C) (.type "ValueError") = some true
  tyC : typeIn K (.ref C) = some (.type "type")
  hdC : hasDictIn K C = true
  mroC : mroIn K C (.ref C) = some true
  sup : ks_superIn K C C "__init__" = some (some (.builtin "ValueError.__init__"))
  op : nsIn K cStatics "thirdparty.any" = some none
  top : (prog.main.scope.names.lookup ("super" : Str)).isSome = false
  fn : ∃ (oc : Value) (od : Option Addr) (doc pm : Value) (an : Option Addr) (cc cda : Addr) (ct : Value) (osl : Array (Option Value)) (p1 p2 q1 q2 q3 q4 q5 q6 q7 q8 q9 q10 : Pos) (msg qual : Str) (ccl cl : Value) (cdd cld : Option Addr) (ccs csl : Array (Option Value)) (vs : Array Value) (file : Str) (tf : Tok),
    K.lookup fI = some ⟨oc, od, .func (ksFn "__init__" qual (iA p1 p2) (iB msg q1 q2 q3 q4 q5 q6 q7 q8 q9 q10) iS .none .none doc pm an (.ref cda) ct cc), osl⟩ ∧ codeIn K (.ref cda) qual = true ∧ (q3.endLine == q5.line) = true ∧
    K.lookup cda = some ⟨ccl, cdd, .fields vs, ccs⟩ ∧ vs[2]? = some (.str file tf) ∧ ((prog.main.file : Str) == file) = true ∧ K.lookup cc = some ⟨cl, cld, .cell (some (.ref C)), csl⟩
structure InitEnd (h h' : Heap) (x C dx t1 : Addr) (v : Value) : Prop where
  keep : ∀ b o, b ≠ x → h.get? b = some o → h'.get? b = some o
  obj : h'.get? x = some { cls := .ref C, dict := some dx, data := .fields #[.ref t1, .none, .none, .none, .bool false, .none] }
  dbig : h.objs.size ≤ dx
  dne : dx ≠ x
  ns : h'.Ns1 dx (fun y => if y = "value" then some v else none)
structure OwnMade (h h' : Heap) (e C d : Addr) (v : Value) : Prop where
  keep : ∀ b o, h.get? b = some o → h'.get? b = some o
  new : h.objs.size ≤ e
  obj : ∃ oe vs, h'.get? e = some oe ∧ oe.cls = .ref C ∧ oe.dict = some d ∧ oe.data = .fields vs ∧ vs[1]? = some .none ∧ vs[2]? = some .none
  dbig : h.objs.size ≤ d
  dne : d ≠ e
  ns : h'.Ns1 d (fun y => if y = "value" then some v else none)
section
variable {prog : Program} {w : World} {M : Model} {A : Around} {E : Value → Shared → Prop} {s : Shared}
theorem cw1 {pos : Pos} {u x : Addr} {i : String} {env : Env} {e : Expr} {rest : List Expr} {Q : Value → Shared → Prop}
    (h : wpAny M A (spliced (backTo pos (starEach (e :: rest) env))) (fun vs s₁ => KxsAt i u x s₁.heap ∧ wpAny M A (call (.ref u) vs) Q E s₁) E s)
    (he : starEach (e :: rest) env = (false, eval e env) :: starEach rest env := by rfl) (hplain : (backTo pos (starEach rest env)).any (·.1) = false := by rfl) :
    wpAny M A (callWith pos (.ref u) [] (backTo pos (starEach (e :: rest) env)) []) Q E s := by
  rw [he] at h ⊢
  refine kxs_callWith (i := i) (x := x) (by show (false || (backTo pos (starEach rest env)).any (·.1)) = false; rw [hplain]; rfl) ?_
  exact evalArgs_plain h
end
section
variable {prog : Program} {w : World} {A : Around} {c : Code} {E : Value → Shared → Prop} {s : Shared} {env : Env}
theorem mcall {o : Expr} {name : Str} {apos pos : Pos} {args : List Expr} {Q : Value → Shared → Prop} (hline : (apos.endLine == pos.line) = true)
    (h : _root_.PySem.wpAt (model prog w) A c (attributeBase o name env (eval o env)) (fun ov s₁ => wpAny (model prog w) A (getMethod ov name (do return (← importBound o env).getD true)) (fun fx s₂ => wpAny (model prog w) A (callWith pos fx.1 fx.2 (backTo pos (starEach args env)) []) Q E s₂) E s₁) E s)
    (hfew : methodCallForm (args.length + ([] : List Keyword).length) (backTo pos (starEach args env)) (backToKw pos (keywordEach [] env)) = true := by rfl) :
    _root_.PySem.wpAt (model prog w) A c (eval (.Call (.Attribute o name apos) args [] pos) env) Q E s := by
  rw [arm_eval_Call]
  have hpos : methodCallPos true o env apos pos = pure pos := by unfold methodCallPos; simp [hline]
  refine wpAt_bind (wpAt_mono h (fun ov s₁ h₁ => wpAt_of_wpAny (wpAny_bind (wpAny_standAt ?_))) fun _ _ x => x)
  unfold methodCall
  rw [hfew]
  exact wpAny_bind (wpAny_holding (wpAny_mono h₁ (fun fx s₂ h₂ => wpAny_bind (wpAny_of_eq hpos h₂)) fun _ _ x => x))
end
section
variable {prog : Program} {w : World} {A : Around} {E : Value → Shared → Prop} {h : Heap} {g : Array GenState} {d : Drawn} {t : Nat} {os : OsState}
variable {nm q : Str} {C N : Addr} {bs bm : List Value} {hdct : Bool} {sn : List Str} {sub : List Value} {ab : Bool} {col : Option Bool} {dd : Option Addr} {k0 k1 k2 k3 k5 : Option Value}
theorem call_bwV {u e t0 : Addr} {rest : List Value} {Q : Value → Shared → Prop}
    (hC : h.get? C = some (excClassObj nm q C N bs bm hdct sn sub ab col dd k0 k1 k2 k3 k5 "ValueError.__new__")) (he : h.get? e = some (HandSPX.excO C t0)) (hu : KxsAt "ValueError.__init__" u e h) (hrest : rest.length ≤ sizeLine)
    (hq : ∀ h' t1, (∀ b o, b ≠ e → h.get? b = some o → h'.get? b = some o) → h'.get? e = some (HandSPX.excO C t1) → h.objs.size ≤ h'.objs.size → Q .none ⟨h', g, d, t, os⟩) :
    wpAny (model prog w) A (call (.ref u) rest) Q E ⟨h, g, d, t, os⟩ := by
  have hu : h.get? u = some (kxs_mw "ValueError.__init__" e) := hu
  refine wpAny_call (codeAny_of_tree ?_)
  show wpAny _ A.in1 (callAny (.ref u) ⟨rest, []⟩) _ _ _
  simp only [callAny]
  refine wpAny_bind (wpAny_load hu ?_)
  simp only [kxs_mw, show (Value.type "method-wrapper" == Value.type "method" || Value.type "method-wrapper" == Value.type "builtin_function_or_method" || Value.type "method-wrapper" == Value.type "method-wrapper") = true by decide, if_true]
  refine W.KFB.if_so (by decide) ?_
  refine wpAny_bind (ESX.check_bound F.excBase_ValueError hC he rfl ?_)
  refine wpAny_bind (wpAny_pure (wpAny_pure ?_))
  refine ⟨Code.quiet_builtin _ (by decide +kernel), codeAny_builtin F.excBase_ValueError.initEntry ?_⟩
  rw [Around.under_plainId F.excBase_ValueError.init.plain _]
  wp_walk
  refine hq _ h.objs.size (fun b o hb ho => ?_) ?_ ?_
  · rw [Heap.get?_update_other _ _ (Ne.symm hb)]
    exact Heap.get?_push_of_some _ ho
  · rw [Heap.get?_update_self _ (Heap.get?_push_of_some _ he) rfl]
    rfl
  · simp
end
section
variable {prog : Program} {w : World} {A : Around} {E : Value → Shared → Prop} {R : Result → Shared → Prop} {s : Shared} {K : Frag} {mg mb : Str → Option Value} {xn : Str} {C fI : Addr}
theorem one_size (v : Value) : [v].length ≤ sizeLine := by
  rw [sizeLine_eq]
  exact (by decide : 1 ≤ 16777216)
theorem ve_init (T : VeTxt prog K mg xn C fI) {x t0 : Addr} {v : Value} {args : Args} (ha : args = ⟨[.ref x, v], []⟩ ∨ args = ⟨[.ref x], [("value", v)]⟩) (X : K.In s.heap) (hg : s.heap.Ns mainGlobals mg) (hb : s.heap.Ns builtinsNs mb) (hbo : mb "super" = some (.type "super")) (hlim : s.heap.NoLimit) (hx : s.heap.get? x = some (excO C t0)) (hnx : K.lookup x = none) (hroom : A.depth < recursionLimit)
    (hq : ∀ h' tk dx t1, InitEnd s.heap h' x C dx t1 v → R (.ok (.ret .none)) { s with heap := h', toks := tk }) :
    codeAny (model prog w) A (.call (.ref fI) args) R s := by
  obtain ⟨oc, od, doc, pm, an, cc, cda, ct, osl, p1, p2, q1, q2, q3, q4, q5, q6, q7, q8, q9, q10, msg, qual, ccl, cl, cdd, cld, ccs, csl, vs, file, tf, ho, hcd, hline, hcode, hvs, hfile, hcell⟩ := T.fn
  obtain ⟨nm, q, N, bs, bm, sn, sub, ab, col, dd, k0, k1, k2, k3, k5, hC, hbm⟩ := T.cls
  have hcl : clsIn K C = some { name := nm, bases := bs, mro := .ref C :: bm, ns := N, qualname := q, hasDict := true, slotNames := sn, subclasses := sub, abstract := ab, collection := col, hasDel := false } := by unfold clsIn; rw [hC] <;> rfl
  refine ks_codeAny_call_defAt (fd := ksFn "__init__" qual (iA p1 p2) (iB msg q1 q2 q3 q4 q5 q6 q7 q8 q9 q10) iS .none .none doc pm an (.ref cda) ct cc) (body := iB msg q1 q2 q3 q4 q5 q6 q7 q8 q9 q10) (binds := [("self", .ref x), ("value", v)]) hroom (X _ _ ho) rfl hlim (codeRec_of X hcd) rfl (by rcases ha with rfl | rfl <;> exact BindsTo.of_eq (by first | rfl | with_unfolding_all rfl)) (by show ∀ y ∈ iS.names, y.2 ≠ .cell; decide +kernel) (by intro y hy; simp only [List.mem_cons, List.not_mem_nil, or_false] at hy; rcases hy with rfl | rfl <;> rfl) (fun h₀ hns k => ?_) rfl rfl rfl
  have X₀ : K.In h₀ := X.keeps k
  have hx₀ := k _ _ hx
  have hxL : s.heap.objs.size ≠ x := Nat.ne_of_gt (Heap.lt_size hx)
  show _root_.PySem.wpAt _ _ _ (execs (iB msg q1 q2 q3 q4 q5 q6 q7 q8 q9 q10) (ksEnv qual iS s.heap.objs.size fI (.ref cda) cc)) _ _ _
  unfold iB
  refine ks_wpAt_execs_cons (ks_wpAt_Expr_any (mcall hline ?_))
  refine ks_wpAt_super_base (fd := ksFn "__init__" qual (iA p1 p2) (iB msg q1 q2 q3 q4 q5 q6 q7 q8 q9 q10) iS .none .none doc pm an (.ref cda) ct cc) (ar := { arg := "self", annotation := none, pos := p1 }) (by rfl) (by rfl) (by decide +kernel) rfl (X₀ _ _ ho) rfl rfl rfl (X₀ _ _ hcode) rfl hvs hfile T.top ?_
  refine ks_loadName_global rfl (by rfl) (loadGlobal_builtin (hg.keeps k) T.gS (hb.keeps k) hbo ⟨rfl, ?_⟩)
  refine wpAny_loadName_free rfl (by rfl) rfl ⟨_, X₀ _ _ hcell, rfl⟩ ?_
  refine wpAny_loadName_local (v := .ref x) rfl (by rfl) hns (by first | rfl | with_unfolding_all rfl | kernel_rfl) ?_
  refine ks_wpAny_isType_cls (X₀ _ _ hC) rfl ⟨rfl, ?_⟩
  refine ks_wpAny_call_super (X₀ _ _ hC) rfl hx₀ rfl (fun c e => by cases e) (looks_mroIn X₀ T.mroC) (fun h₁ e₁ k₁ => ?_)
  have X₁ : K.In h₁ := X₀.keeps k₁
  have hx₁ := k₁ _ _ hx₀
  have I₁ : InstAt h₁ x (excO C t0) C none := ⟨hx₁, rfl, rfl, trivial⟩
  have hm := T.sup
  unfold ks_superIn at hm
  rw [hcl] at hm
  refine kxs_getMethod kxs_ValueError e₁ (looks_opaque X₁ T.op) (l₀ := .ref C :: bm) (fun A Q E s k q => wpAny_bind ((looks_clsIn X₁ hcl) A _ E s k (wpAny_pure q))) rfl X₁ hm (I₁.type.andThen (looks_subIn X₁ T.veC)) (ks_ne X₁ I₁ hcl) (by decide +kernel) ?_
  have k₂ : ∀ b o, h₁.get? b = some o → (h₁.push (kxs_mw "ValueError.__init__" x)).get? b = some o := fun b o e => Heap.get?_push_of_some _ e
  refine cw1 (i := "ValueError.__init__") (x := x) (args_cons (wpAny_Constant_str (args_nil ⟨Heap.get?_push_at rfl rfl, ?_⟩)))
  refine call_bwV ((X₁.keeps k₂) _ _ hC) (k₂ _ _ hx₁) (Heap.get?_push_at rfl rfl) (one_size _) (fun h₃ t1 k₃ e₃ hs₃ => ?_)
  have kall : ∀ b o, b ≠ x → h₀.get? b = some o → h₃.get? b = some o := fun b o hb e => k₃ b o hb (k₂ b o (k₁ b o e))
  have X₃ : K.In h₃ := fun a o e => kall _ _ (fun z => by rw [z, hnx] at e; cases e) (X₀ _ _ e)
  refine wpAt_of_wpAny ?_
  show wpAny _ _ (execs _ _) _ _ _
  refine wpAny_execs_cons (plainObj_wpAny_Assign_Attribute ?_)
  have hn₃ : h₃.Ns s.heap.objs.size (fun y => ([(("self" : Str), Value.ref x), (("value" : Str), v)] : List (Str × Value)).reverse.lookup y) := by
    obtain ⟨o, es, ep, ho', r⟩ := hns
    exact ⟨o, es, ep, kall _ _ hxL ho', r⟩
  refine ESX.ldL (v := v) hn₃ (by first | rfl | with_unfolding_all rfl | kernel_rfl) (ESX.ldL (v := .ref x) hn₃ (by first | rfl | with_unfolding_all rfl | kernel_rfl) ?_)
  refine set_plain X₃ (ox := excO C t1) (od := none) ⟨e₃, rfl, rfl, trivial⟩ T.sa ?_
  refine exc_osa X₃ e₃ hcl (show refsVE (.ref C :: bm) = true from hbm) rfl T.noN (fun h₄ tk₄ dx k₄ dn dne hx₄ hn₄ => ?_)
  show wpAny _ _ (execs _ _) _ _ _
  have hsz : s.heap.objs.size ≤ h₃.objs.size := Nat.le_of_lt hn₃.lt
  exact wpAny_execs_nil (hq h₄ tk₄ dx t1 ⟨fun b o hb e => k₄ b o hb (kall b o hb (k b o e)), hx₄, Nat.le_trans hsz dn, dne, hn₄⟩)
theorem ve_made (T : VeTxt prog K mg xn C fI) {v : Value} (X : K.In s.heap) (hg : s.heap.Ns mainGlobals mg) (hb : s.heap.Ns builtinsNs mb) (hbo : mb "super" = some (.type "super")) (hlim : s.heap.NoLimit) (hroom : A.depth + 1 < recursionLimit)
    (hq : ∀ h' tk e d, OwnMade s.heap h' e C d v → R (.ok (.ret (.ref e))) { s with heap := h', toks := tk }) :
    codeAny (model prog w) A (.call (.ref C) ⟨[v], []⟩) R s := by
  obtain ⟨nm, q, N, bs, bm, sn, sub, ab, col, dd, k0, k1, k2, k3, k5, hC, hbm⟩ := T.cls
  obtain ⟨hp, g, dr, tk, os⟩ := s
  have k : ∀ b o, hp.get? b = some o → ((hp.push (kdv_tup [v])).push (excO C hp.objs.size)).get? b = some o := fun b o e => Heap.get?_push_of_some _ (Heap.get?_push_of_some _ e)
  have hget : ((hp.push (kdv_tup [v])).push (excO C hp.objs.size)).get? (hp.objs.size + 1) = some (excO C hp.objs.size) := by heap_get
  have hnx : K.lookup (hp.objs.size + 1) = none := by
    cases e : K.lookup (hp.objs.size + 1) with
    | none => rfl
    | some o =>
      have z : hp.get? (hp.objs.size + 1) = some o := X _ _ e
      exact absurd (Nat.lt_of_succ_lt (Heap.lt_size z)) (Nat.lt_irrefl _)
  refine call_own F.excBase_ValueError (fun X => refsVE_contains X bm hbm) (X _ _ hC) (looks_findIn X T.iC) (fun self => bind_fn X self T.tC) (one_size v) ?_
  refine ve_init (s := ⟨(hp.push (kdv_tup [v])).push (excO C hp.objs.size), g, dr, tk, os⟩) T (.inl rfl) (X.keeps k) (hg.keeps k) (hb.keeps k) hbo (hlim.keeps k) hget hnx ?_ fun h' tk' dx t1 ⟨k', hx, dn, dne, hns⟩ => ?_
  · show A.depth + 1 < recursionLimit
    exact hroom
  · have old : ∀ b o, hp.get? b = some o → h'.get? b = some o := fun b o e => k' b o (Nat.ne_of_lt (Nat.lt_succ_of_lt (Heap.lt_size e))) (k b o e)
    have z : hp.objs.size + 1 + 1 ≤ dx := by
      first
        | (simpa only [Heap.size_push] using dn)
        | exact dn
        | (have q := dn; rw [Heap.size_push, Heap.size_push] at q; exact q)
    exact ⟨rfl, hq h' tk' (hp.objs.size + 1) dx ⟨old, Nat.le_succ _, ⟨_, _, hx, rfl, rfl, rfl, rfl, rfl⟩, Nat.le_trans (Nat.le_trans (Nat.le_succ _) (Nat.le_succ _)) z, dne, hns⟩⟩
theorem ve_sup {nm q nR qR : Str} {N CR NR : Addr} {bs bR bm : List Value} {hd hdR : Bool} {sn snR : List Str} {sub subR : List Value} {ab abR : Bool} {col colR : Option Bool} {dd ddR : Option Addr} {k0 k1 k2 k3 k5 r0 r1 r2 r3 r5 : Option Value} {n1 n2 : String} {u : Value}
    (xL : K.lookup C = some (excClassObj nm q C N bs (.ref CR :: bm) hd sn sub ab col dd k0 k1 k2 k3 k5 n1)) (xR : K.lookup CR = some (excClassObj nR qR CR NR bR bm hdR snR subR abR colR ddR r0 r1 r2 r3 r5 n2)) (fR : findIn K (.ref CR) "__init__" = some (some u)) : ks_superIn K C C "__init__" = some (some u) := by
  have fR' : alongIn K "__init__" (.ref CR :: bm) = some (some u) := by
    unfold findIn at fR
    dsimp only at fR
    rw [xR] at fR
    exact fR
  unfold ks_superIn clsIn
  rw [xL]
  show alongIn K "__init__" (((Value.ref C :: .ref CR :: bm).dropWhile (· != .ref C)).drop 1) = _
  rw [ESX.drop_own]
  exact fR'
theorem ve_mk {h : Heap} {nm q : Str} {N : Addr} {bs bm : List Value} {sn : List Str} {sub : List Value} {ab : Bool} {col : Option Bool} {dd : Option Addr} {k0 k1 k2 k3 k5 : Option Value} {qual : Str}
    {oc : Value} {od : Option Addr} {doc pm : Value} {an : Option Addr} {cc cda : Addr} {ct : Value} {osl : Array (Option Value)} {p1 p2 q1 q2 q3 q4 q5 q6 q7 q8 q9 q10 : Pos} {msg : Str} {ccl cl : Value} {cdd cld : Option Addr} {ccs csl : Array (Option Value)} {vs : Array Value} {file : Str} {tf : Tok}
    (X : K.In h) (G : h.Ns mainGlobals mg) (aC : nsIn K mainGlobals xn = some (some (.ref C))) (aS : nsIn K mainGlobals "super" = some none) (xL : K.lookup C = some (excClassObj nm q C N bs bm true sn sub ab col dd k0 k1 k2 k3 k5 "ValueError.__new__")) (hbm : refsVE bm = true)
    (sa : findIn K (.ref C) "__setattr__" = some (some (.builtin "object.__setattr__"))) (ga : findIn K (.ref C) "__getattribute__" = some (some (.builtin "BaseException.__getattribute__"))) (gg : findIn K (.ref C) "__getattr__" = some none) (noN : findIn K (.ref C) "value" = some none)
    (iC : findIn K (.ref C) "__init__" = some (some (.ref fI))) (tC : typeIn K (.ref fI) = some (.type "function")) (kC : keepIn K (.ref C) = true) (exC : subIn K (.ref C) (.type "BaseException") = some true) (veC : subIn K (.ref C) (.type "ValueError") = some true)
    (tyC : typeIn K (.ref C) = some (.type "type")) (hdC : hasDictIn K C = true) (mroC : mroIn K C (.ref C) = some true) (sup : ks_superIn K C C "__init__" = some (some (.builtin "ValueError.__init__"))) (op : nsIn K cStatics "thirdparty.any" = some none) (top : (prog.main.scope.names.lookup ("super" : Str)).isSome = false)
    (lI : K.lookup fI = some ⟨oc, od, .func (ksFn "__init__" qual (iA p1 p2) (iB msg q1 q2 q3 q4 q5 q6 q7 q8 q9 q10) iS .none .none doc pm an (.ref cda) ct cc), osl⟩) (cI : codeIn K (.ref cda) qual = true) (hl : (q3.endLine == q5.line) = true)
    (cd : K.lookup cda = some ⟨ccl, cdd, .fields vs, ccs⟩) (fv : vs[2]? = some (.str file tf)) (fm : ((prog.main.file : Str) == file) = true) (ce : K.lookup cc = some ⟨cl, cld, .cell (some (.ref C)), csl⟩) : VeTxt prog K mg xn C fI :=
  { gC := mg_of X G aC, gS := mg_none_of X G aS, cls := ⟨nm, q, N, bs, bm, sn, sub, ab, col, dd, k0, k1, k2, k3, k5, xL, hbm⟩, sa := sa, ga := ga, gg := gg, noN := noN, iC := iC, tC := tC, kC := kC, exC := exC, veC := veC, tyC := tyC, hdC := hdC, mroC := mroC, sup := sup, op := op, top := top,
    fn := ⟨oc, od, doc, pm, an, cc, cda, ct, osl, p1, p2, q1, q2, q3, q4, q5, q6, q7, q8, q9, q10, msg, qual, ccl, cl, cdd, cld, ccs, csl, vs, file, tf, lI, cI, hl, cd, fv, fm, ce⟩ }
end
end VeX
end PySem
namespace Rn
open PySem PySem.Spec PyProof.Rows L2
theorem relO_val {v : V} {v' : Value} (r : RelV v v') (f : Str) : RelO (List.lookup f [(("value" : Str), v)]) (if f = "value" then some v' else none) := by
  by_cases hw : f = "value"
  · subst hw
    rw [if_pos rfl]
    have q : List.lookup ("value" : Str) [(("value" : Str), v)] = some v := by simp [List.lookup]
    rw [q]
    exact r
  · rw [if_neg hw]
    have qw : (f == ("value" : Str)) = false := by simpa using hw
    have q2 : List.lookup f [(("value" : Str), v)] = none := by simp [List.lookup, qw]
    rw [q2]
    trivial
section
variable {X : Cx} {C fI : Addr} {xn : Str}
/-- X(e) -/
def tMkVe (C : Addr) (ta : TA) : L2.St → Hp → XK → Prop := fun σ H Q => ta σ H fun vs H1 => ∃ v, vs = [v] ∧ ∀ d, H1 d = none → Q (.ref C) (some d) (upd H1 d (.xd [(("value" : Str), v)]))
theorem pmk_ve {a : Expr} {ta : TA} {p pos : Pos} {k : Nat} (T : PySem.VeX.VeTxt X.prog X.K X.mg xn C fI) (hr : Room k X.A) (ha : PA X [a] ta) (hg : Gl X xn := by rfl)
    (hdb : (xn == ("__debug__" : Str)) = false := by decide)
    (he : starEach (a :: []) X.env = (false, eval a X.env) :: starEach [] X.env := by rfl) (hpl : (backTo pos (starEach [] X.env)).any (·.1) = false := by rfl) :
    PMk X (.Call (.Name xn p) [a] [] pos) (tMkVe C ta) := by
  intro pins s σ H Q I h
  refine wpAny_Call_Name_kw (ld_glob I hg T.gC ?_ hdb)
  refine PySem.W.callWith_K (h₀ := X.base) I.ok.mod.kin T.kC (thn (ha.run pos pins s σ H _ I h) fun us s1 hh => ?_) he hpl
  obtain ⟨vs, H1, I1, r1, v, ev, q1⟩ := hh
  subst ev
  refine ⟨I1.kIn, ?_⟩
  cases r1 with
  | cons rv rn =>
    rename_i v' us'
    cases rn
    show wpAny _ _ (call (.ref C) [v']) _ _ _
    have hlim := I1.nolimit
    obtain ⟨mb, hmb, hbo⟩ := I1.ok.mod.blt
    have kb : ∀ b o, X.base.get? b = some o → s1.heap.get? b = some o := I1.bk
    have hG := I1.ok.mod.glob.keeps kb
    have hB := hmb.keeps kb
    have hS : mb "super" = some (.type "super") := (hbo _ (by decide +kernel)).trans (by first | rfl | kernel_rfl)
    obtain ⟨hp, g, dr, tk, os⟩ := s1
    refine wpAny_call (PySem.VeX.ve_made T I1.kIn hG hB hS hlim (by have := hr.dp; omega) fun h' tk' e d M => ?_)
    show MkP X pins σ Q (.ref e) ⟨h', g, dr, tk', os⟩
    obtain ⟨oe, fv, hoe, hc, hd, hdat, h1, _⟩ := M.obj
    have hns := M.ns
    obtain ⟨G', g1, g2⟩ := restrict h' fun b => decide (b ≠ e)
    have gk : ∀ b, b ≠ e → G'.get? b = h'.get? b := fun b hb => g1 b (decide_eq_true hb)
    have ge : G'.get? e = none := g2 e (by simp)
    have old : ∀ b o, hp.get? b = some o → G'.get? b = some o := fun b o q => (gk b (Nat.ne_of_lt (Nat.lt_of_lt_of_le (Heap.lt_size q) M.new))).trans (M.keep b o q)
    have ob : ObjOk X.prog X.w (upd H1 d (.xd [(("value" : Str), v)])) G' d (.xd [(("value" : Str), v)]) :=
      ⟨_, hns.at (fun o q => (gk d M.dne).trans q), fun f => relO_val rv f⟩
    have J : Inv X pins σ (upd H1 d (.xd [(("value" : Str), v)])) ⟨G', g, dr, tk', os⟩ := I1.laid (t' := tk') old M.dbig ob
    refine ⟨e, oe, fv, ⟨G', g, dr, tk', os⟩, _, .ref C, some d, rfl, J, fun b o q => ?_, ge, hoe, ⟨hc, hd⟩, hdat, h1, ?_, rfl, I1.bare, raises_own T.exC T.tyC, q1 d (I1.hok.fresh M.dbig)⟩
    · by_cases hb : b = e
      · have q' : G'.get? b = some o := q
        rw [hb, ge] at q'; cases q'
      · exact (gk b hb).symm.trans q
    · rw [upd_ne (Ne.symm M.dne)]
      exact I1.hok.fresh M.new
/-- raise X(e) -/
def tRaiseVe (C : Addr) (W : WX) (ta : TA) : TS := fun _ σ H => tMkVe C ta σ H fun cls d H' => W cls d σ H'
theorem ps_raiseVe {a : Expr} {ta : TA} {W : WX} {p pos pos2 : Pos} {k : Nat} (hc : X.calm = true) (T : PySem.VeX.VeTxt X.prog X.K X.mg xn C fI) (hr : Room k X.A) (tk : Takes X W) (ha : PA X [a] ta) (hg : Gl X xn := by rfl)
    (hdb : (xn == ("__debug__" : Str)) = false := by decide)
    (he : starEach (a :: []) X.env = (false, eval a X.env) :: starEach [] X.env := by rfl) (hpl : (backTo pos (starEach [] X.env)).any (·.1) = false := by rfl) :
    PS X (.Raise (some (.Call (.Name xn p) [a] [] pos)) none pos2) (tRaiseVe C W ta) := ps_raise hc tk (pmk_ve T hr ha hg hdb he hpl)
/-- e.value, e the exception that the suite holds (at a; its class cls, its dict d) -/
def tValOf (P : Program) (K : PySem.W.Frag) (mg : Str → Option Value) (a : Addr) (cls : Value) (d : Option Addr) (te : TE) : TE := fun σ H Q => te σ H fun x H1 => x = .ref a ∧ ∃ (xn : Str) (C fI : Addr), PySem.VeX.VeTxt P K mg xn C fI ∧ cls = .ref C ∧ ∃ (dd : Addr) (v : V), d = some dd ∧ H1 dd = some (.xd [(("value" : Str), v)]) ∧ Q v H1
theorem pe_valOf {a : Addr} {oe : Obj} {cls : Value} {d : Option Addr} {pn : List (Addr × Obj)} {e : Expr} {te : TE} {pos : Pos} (hz : Zc cls d oe) (hf : ∃ vs, oe.data = .fields vs) (he : PE (X.suite a ((a, oe) :: pn)) e te)
    (hb : attributeBase e "value" X.env (eval e X.env) = eval e X.env := by rfl) :
    PE (X.suite a ((a, oe) :: pn)) (.Attribute e "value" pos) (tValOf X.prog X.K X.mg a cls d te) := by
  refine ⟨fun pins s σ H Q I h => ?_⟩
  refine attr_of hb (thn (he.run pins s σ H _ I h) fun u s1 hh => ?_)
  obtain ⟨x, H1, I1, rx, ex, xn, C, fI, T, ec, dd, v, ed, ea, q⟩ := hh
  subst ex
  obtain rfl : u = Value.ref a := rx
  subst ec
  subst ed
  obtain ⟨ha, _⟩ := I1.pin (a, oe) (List.mem_append_left _ List.mem_cons_self)
  obtain ⟨vs, hd⟩ := hf
  have hx : ObjOk X.prog X.w H1 s1.heap dd (.xd [(("value" : Str), v)]) := I1.hok dd _ ea
  obtain ⟨mA, hns, hr⟩ := hx
  obtain ⟨od, ho, hl⟩ := lookIn_ns hns
  have l : List.lookup ("value" : Str) [(("value" : Str), v)] = some v := by simp [List.lookup]
  obtain ⟨u, hu, ru⟩ := RelO.some_of (v := v) (o := mA "value") (by rw [← l]; exact hr "value")
  have J : PySem.W.InstAt s1.heap a oe C (some od) := ⟨ha, hz.1, by unfold PySem.W.notCls; rw [hd] <;> rfl, by rw [hz.2]; exact ho⟩
  exact HandSPX.exc_get I1.kIn J T.ga T.gg T.exC (PySem.W.findObj_own T.hdC T.noN rfl (by rw [hl, hu])) (handed_of ru) ⟨v, H1, I1.tok _, ru, q⟩
end
/-- an error of the class at S is what «except D» names -/
theorem exm_is {K : PySem.W.Frag} {S D : Addr} {b : Bool} (h1 : PySem.W.subIn K (.ref D) (.type "BaseException") = some true) (h2 : PySem.W.isClsIn K D = true) (h3 : PySem.W.typeIn K (.ref D) = some (.type "type")) (h4 : PySem.W.subIn K (.ref S) (.ref D) = some b) :
    PySem.W.exmOne K (.ref S) (.ref D) = some b := by
  have e1 : (PySem.W.subIn K (.ref D) (.type "BaseException") == some true) = true := by rw [h1] <;> rfl
  have e2 : ((PySem.W.clsIn K D).isSome && PySem.W.typeIn K (.ref D) == some (.type "type")) = true := by
    have h2' : (PySem.W.clsIn K D).isSome = true := h2
    rw [h2', h3] <;> rfl
  show (if (PySem.W.subIn K (.ref D) (.type "BaseException") == some true) = true then (if ((PySem.W.clsIn K D).isSome && PySem.W.typeIn K (.ref D) == some (.type "type")) = true then PySem.W.subIn K (.ref S) (.ref D) else none) else none) = some b
  rw [if_pos e1, if_pos e2]
  exact h4
/-- a def that raises nothing where its promise leaves no way for it -/
theorem calm0 {P : Program} {w : World} {K : PySem.W.Frag} {mg : Str → Option Value} {base : Heap} {k : Nat} {f : Addr} {fd : FuncData} {ps : List Str} {sp sp0 : Sp} (F : FnOk P w K mg base (L2.CX P w) k f fd ps sp) (h : ∀ vs H Q E, sp0 vs H Q E → sp vs H Q (fun _ _ _ => False)) : FnOk P w K mg base CX0 k f fd ps sp0 :=
  ⟨fun vs H Q E q => F.len vs H Q _ (h _ _ _ _ q), fun A outer s H args us vs Q E hr he hb hv hs => codeAny_mono (F.run A outer s H args us vs Q _ hr he hb hv (h _ _ _ _ hs)) fun r s' z => by
    cases r with
    | error e =>
      obtain ⟨_, _, _, _, _, _, _, _, _, _, _, _, z⟩ := z
      exact z.elim
    | ok fl => cases fl <;> exact z⟩
end Rn

set_option Elab.async false
set_option linter.all false
set_option maxRecDepth 100000
set_option maxHeartbeats 4000000
namespace Rn
open PySem PySem.Spec PyProof.Rows L2
/-! # isinstance of a caught error that has a value -/
section
variable {prog : Program} {w : World} {A : Around} {E : Value → Shared → Prop} {s : Shared} {K : PySem.W.Frag} {x D : Addr} {ox od : Obj}
open PySem.W PySem.Calls in
theorem cls_err {Q : Option Value → Shared → Prop} (C : ExcC K D) (X : K.In s.heap) (I : PySem.W.InstAt s.heap x ox D (some od)) (h : Q (some (.ref D)) { s with toks := s.toks + 1 }) : wpAny (model prog w) A (getAttr? (.ref x) "__class__") Q E s := by
  have hf : findObj K D (some od) "__class__" = some (.bind (.builtin "getset_descriptor.__get__") (.builtin "object.__class__")) := findObj_data (by obtain ⟨cd, hc, _⟩ := any_some C.hd; rw [hc]; rfl) C.ha C.hn C.ht
  obtain ⟨hp, g, d, t, os⟩ := s
  have lk0 := I.type (M := model prog w); have lk1 := looks_findIn (M := model prog w) X C.hg
  have lk2 := looks_findIn (M := model prog w) X C.hk; have lk3 := looks_find (M := model prog w) X I hf
  have isb : Looks (model prog w) hp (isInstance (.ref x) (.type "BaseException")) true := lk0.andThen (looks_subIn X C.hs)
  have nb : (Value.builtin "BaseException.__getattribute__" == Value.builtin "object.__getattribute__") = false := by decide +kernel
  have nb1 : (onTheHeap (Value.ref D) && Value.builtin "BaseException.__getattribute__" == Value.builtin "object.__getattribute__") = false := by rw [nb]; rfl
  unfold getAttr? getAttrBy? getAttrBy
  refine wpAny_bind (wpAny_mkText (wpAny_bind (wpAny_attempt (wpAny_holding (wpAny_bind (lk0.at (wpAny_bind (lk1.at ?_))))))))
  show wpAny _ _ (if (onTheHeap (Value.ref D) && Value.builtin "BaseException.__getattribute__" == Value.builtin "object.__getattribute__") = true then _ else _) _ _ _
  rw [nb1, if_neg Bool.false_ne_true]; unfold getAttrByItsOwn hookBefore
  refine wpAny_bind ?_
  rw [if_pos (show onTheHeap (Value.ref D) = true from rfl)]
  refine lk2.at (wpAny_bind (wpAny_attempt (wpAny_holding ?_)))
  unfold callGetattribute
  rw [show (false && onTheHeap (Value.builtin "BaseException.__getattribute__")) = false from rfl, if_neg Bool.false_ne_true]; unfold boundAndCalled
  rw [PySem.F.excAttr_ValueError.ga.bind (.ref x)]; refine wpAny_bind (wpAny_pure ?_)
  show wpAny _ _ (call (.builtin "BaseException.__getattribute__") [.ref x, .str "__class__" t]) _ _ _
  refine wpAny_call (codeAny_call_builtin PySem.F.excAttr_ValueError.ga.plain PySem.F.entry_bexc_ga ?_)
  refine @check_slot (model prog w) _ _ ⟨hp, g, d, t + 1, os⟩ "BaseException.__getattribute__" "BaseException" "__getattribute__" (.ref x) [.str "__class__" t] [] _ (by decide +kernel) (by decide +kernel) isb (PySem.F.args_bexc_ga (.ref x) (.str "__class__" t)) ?_
  unfold Builtin.«object.__getattribute__»
  refine wpAny_bind (wpAny_of_eq (a := ((Value.ref x : Value), [Value.str "__class__" t])) (by first | rfl | (simp only [slotArgs]; rfl)) ?_)
  refine wpAny_bind (wpAny_pure (wpAny_bind (lk0.at (wpAny_bind (lk3.at ?_)))))
  show wpAny _ _ (holding [Value.builtin "object.__class__"] (call (.builtin "getset_descriptor.__get__") [.builtin "object.__class__", .ref x, .ref D]) >>= ret) _ _ _
  refine wpAny_bind (wpAny_holding (wpAny_call (class_get (s := ⟨hp, g, d, t + 1, os⟩) (ox := ox) (od := some od) X I C.hm ?_)))
  refine wpAny_pure ?_
  show wpAny _ _ (handedOut (.ref D)) _ _ _
  rw [handedOut_of (v := .ref D) rfl]
  first | exact wpAny_pure (wpAny_pure h) | exact wpAny_pure h | exact wpAny_pure (wpAny_bind (wpAny_pure (wpAny_pure h)))
open PySem.W PySem.Calls in
theorem kit_err (C : ExcC K D) : KitX K (.ref x) (.ref D) (fun h => PySem.W.InstAt h x ox D (some od)) := by
  obtain ⟨cd, hcd, _⟩ := any_some C.hd
  have lk : ∃ o, K.lookup D = some o ∧ (∀ c d its n sl, o ≠ ⟨c, d, .seq its n, sl⟩) ∧ ∀ {M : Model} {h : Heap}, K.In h → Looks M h (isType (.ref D)) true := by
    unfold clsIn at hcd
    split at hcd
    · rename_i c' d' cd' sl' ho
      refine ⟨_, ho, (fun c d its n sl z => by cases z), fun {M h} X => ?_⟩
      intro A' Q' E' s' k q
      unfold isType loadHead
      exact wpAny_bind (wpAny_loadPart (k _ _ (X _ _ ho)) (wpAny_pure q))
    · cases hcd
  obtain ⟨o, ho, hne, hty⟩ := lk
  refine ⟨fun _ _ _ I => I.type, fun _ _ X _ => hty X, fun h tp dd its n sl X e => Bool.eq_false_iff.mpr fun q => ?_, fun X I k => cls_err C X I k⟩
  have e2 : D = tp := Value.ref.inj (beq_iff_eq.mp q)
  subst e2
  have z := (X _ _ ho).symm.trans e
  exact hne _ _ _ _ _ (Option.some.inj z)
end
section
variable {X : Cx} {K : PySem.W.Frag} {a : Addr} {oe : Obj} {cls : Value} {d : Option Addr} {pn : List (Addr × Obj)}
/-- the error that is held: its class, its dict -/
def IsErr (K : PySem.W.Frag) (cls : Value) (d : Option Addr) (D : Addr) (H : Hp) : Prop := cls = .ref D ∧ ExcC K D ∧ ∃ dd fs, d = some dd ∧ H dd = some (.xd fs)
theorem err_inst {pins : List (Addr × Obj)} {σ : L2.St} {H : Hp} {s : Shared} {D : Addr} (hz : Zc cls d oe) (hf : ∃ vs, oe.data = .fields vs) (I : Inv (X.suite a ((a, oe) :: pn)) pins σ H s) (h : IsErr X.K cls d D H) :
    ExcC X.K D ∧ ∃ od, PySem.W.InstAt s.heap a oe D (some od) := by
  obtain ⟨ec, C, dd, fs, ed, hd⟩ := h
  obtain ⟨ha, _⟩ := I.pin (a, oe) (List.mem_append_left _ List.mem_cons_self)
  obtain ⟨vs, hv⟩ := hf
  obtain ⟨z1, z2⟩ := hz
  have hx : ObjOk X.prog X.w H s.heap dd (.xd fs) := I.hok dd _ hd
  obtain ⟨mA, hns, _⟩ := hx
  obtain ⟨od, ho, _⟩ := lookIn_ns hns
  exact ⟨C, od, ha, z1.trans ec, by unfold PySem.W.notCls; rw [hv] <;> rfl, by rw [z2, ed]; exact ho⟩
def rIsX (K : PySem.W.Frag) (cls : Value) (d : Option Addr) (a : Addr) : List V → Hp → VK → Prop := fun xs H Q => ∃ (D : Addr) (c : V) (cv : Value) (b : Bool), xs = [.ref a, c] ∧ IsErr K cls d D H ∧ ClsV c cv ∧ PySem.W.kitOne K (.ref D) cv = some b ∧ Q (.bl b) H
theorem call_isX (hz : Zc cls d oe) (hf : ∃ vs, oe.data = .fields vs) : CallR (X.suite a ((a, oe) :: pn)) (.builtin "isinstance") (rIsX X.K cls d a) := by
  intro pins s σ H xs us Q I r h
  obtain ⟨D, c, cv, b, rfl, he, hcv, e, q⟩ := h
  obtain ⟨u1, u2, rfl, r1, r2⟩ := vals2 r
  cases (show u1 = Value.ref a from r1)
  have e2 := hcv.eq r2
  subst e2
  obtain ⟨C, od, J⟩ := err_inst hz hf I he
  exact PySem.W.kia_one (kit_err C) I.kIn J e (fun z => nomatch z) fun tk => ⟨.bl b, H, I.kept (t' := tk) fun _ _ z => z, rfl, q⟩
def rIsXT (K : PySem.W.Frag) (cls : Value) (d : Option Addr) (a : Addr) : List V → Hp → VK → Prop := fun xs H Q => ∃ (D tp : Addr) (cs : List V) (ws : List Value) (b : Bool), xs = [.ref a, .ref tp] ∧ IsErr K cls d D H ∧ H tp = some (.tup cs) ∧ Paired ClsV cs ws ∧ PySem.W.kitAny K (.ref D) ws = some b ∧ Q (.bl b) H
theorem call_isXT (hz : Zc cls d oe) (hf : ∃ vs, oe.data = .fields vs) : CallR (X.suite a ((a, oe) :: pn)) (.builtin "isinstance") (rIsXT X.K cls d a) := by
  intro pins s σ H xs us Q I r h
  obtain ⟨D, tp, cs, ws, b, rfl, he, hT, k, e, q⟩ := h
  obtain ⟨u1, u2, rfl, r1, r2⟩ := vals2 r
  cases (show u1 = Value.ref a from r1)
  cases (show u2 = Value.ref tp from r2)
  obtain ⟨C, od, J⟩ := err_inst hz hf I he
  obtain ⟨_, its, rv, o, h1, h2, n, h3⟩ := (show ObjOk X.prog X.w H s.heap tp (.tup cs) from I.hok tp _ hT)
  have e3 := ClsV.all k rv
  subst e3
  obtain ⟨oc, od', dt, sl⟩ := o
  simp only at h2 h3
  subst h2 h3
  exact PySem.W.kia_tup (kit_err C) I.kIn J h1 e (fun z => nomatch z) fun tk => ⟨.bl b, H, I.kept (t' := tk) fun _ _ z => z, rfl, q⟩
theorem kit_ve {D : Addr} (h : PySem.W.subIn K (.ref D) (.type "ValueError") = some true) : PySem.W.kitOne K (.ref D) (.type "ValueError") = some true := by
  unfold PySem.W.kitOne
  rw [if_neg (by intro z; cases beq_iff_eq.mp z)]
  show (if PySem.W.kitMeta "ValueError" = true then PySem.W.subIn K (.ref D) (.type "ValueError") else none) = _
  rw [if_pos (by decide +kernel), h]
theorem kit_self {D : Addr} : PySem.W.kitOne K (.ref D) (.ref D) = some true := by
  unfold PySem.W.kitOne
  rw [if_pos (by rw [beq_iff_eq])]
end
theorem sqt_same {K : PySem.W.Frag} {H H' : Hp} {a : Addr} {xs : List V} (e : Same H H') (h : SqT K H a xs) : SqT K H' a xs := by
  rcases h with (h | ⟨o, h⟩) | h
  · exact .inl (.inl (e _ _ h))
  · exact .inl (.inr ⟨o, e _ _ h⟩)
  · exact .inr h
mutual
theorem dp_same {K : PySem.W.Frag} {H H' : Hp} (e : Same H H') : ∀ (d : PyData) (v : V), Dp K H v d → Dp K H' v d
  | .none, _, h => by cases h; exact .non
  | .bool b, _, h => by cases h; exact .bl _
  | .int i, _, h => by cases h; exact .int _
  | .str x, _, h => by cases h; exact .str _
  | .list ds, _, h => by
    cases h with
    | lst s r => exact .lst (e.seq s) (dp_sames e ds _ r)
  | .tuple ds, _, h => by
    cases h with
    | tup s r => exact .tup (sqt_same e s) (dp_sames e ds _ r)
  | .dict _, _, h => by cases h
theorem dp_sames {K : PySem.W.Frag} {H H' : Hp} (e : Same H H') : ∀ (ds : List PyData) (vs : List V), DpAll K H vs ds → DpAll K H' vs ds
  | [], _, h => by cases h; exact .nil
  | d :: ds, _, h => by
    cases h with
    | cons a b => exact .cons (dp_same e d _ a) (dp_sames e ds _ b)
end
end Rn

set_option Elab.async false
set_option linter.all false
set_option maxRecDepth 100000
set_option maxHeartbeats 4000000
namespace Rn
open PySem PySem.Spec PyProof.Rows L2
/-! ## ** of great ints -/
def CPowW (i j : Int) : Prop := 0 ≤ j ∧ (Builtin.Int.intBits i : Int) * j ≤ 2 ^ 27
theorem op_powW {X : Cx} : OpR X (binaryOp .Pow) (rI CPowW fun i j => .int (i ^ j.toNat)) := opI fun _ _ _ _ _ _ _ hc q => pow_int hc.1 hc.2 q
theorem pow_ok {i : Int} {k : Nat} (h : i.natAbs < 2 ^ k) (h0 : 0 < k) (hk : k ≤ 1000) : CPowW i 3 := by
  refine ⟨by decide, ?_⟩
  have h1 := PySem.Flt.log2_lt_of h0 h
  have h2 : Builtin.Int.intBits i ≤ i.natAbs.log2 + 1 := by
    unfold Builtin.Int.intBits
    split <;> omega
  omega
/-! ## the other source of draws: three ints in one list -/
def Rng (H : Hp) (a : Addr) (n : Int) : Prop := ∃ dg seed cnt : Int, H a = some (.lst [.int dg, .int seed, .int cnt]) ∧ 0 ≤ seed ∧ seed < 4000000000000000000 ∧ 0 ≤ cnt ∧ cnt ≤ n
theorem Rng.same {H H' : Hp} {a : Addr} {n : Int} (s : Rng H a n) (e : Same H H') : Rng H' a n := by
  obtain ⟨dg, seed, cnt, h, r⟩ := s
  exact ⟨dg, seed, cnt, e _ _ h, r⟩
theorem Rng.keep {H : Hp} {a p : Addr} {o : HO} {n : Int} (s : Rng H a n) (ha : p ≠ a) : Rng (upd H p o) a n := by
  obtain ⟨dg, seed, cnt, h, r⟩ := s
  exact ⟨dg, seed, cnt, by rw [upd_ne ha.symm]; exact h, r⟩
theorem Rng.mono {H : Hp} {a : Addr} {n m : Int} (s : Rng H a n) (h : n ≤ m) : Rng H a m := by
  obtain ⟨dg, seed, cnt, h1, h2, h3, h4, h5⟩ := s
  exact ⟨dg, seed, cnt, h1, h2, h3, h4, Int.le_trans h5 h⟩
theorem Rng.new1 {H : Hp} {a p : Addr} {n : Int} (s : Rng H a n) (h : H p = none) : p ≠ a := by
  obtain ⟨dg, seed, cnt, h1, _⟩ := s
  exact (ne_of_none h1 h).symm
structure Rdv (a : Addr) (c : Int) (H H' : Hp) : Prop where
  same : Same (hid a a H) (hid a a H')
  src : ∀ n, Rng H a n → Rng H' a (n + c)
theorem Rdv.refl {a : Addr} {H : Hp} : Rdv a 0 H H := ⟨Same.refl _, fun n s => s.mono (by omega)⟩
theorem Rdv.trans {a : Addr} {c c' e : Int} {H H1 H2 : Hp} (x : Rdv a c H H1) (y : Rdv a c' H1 H2) (h : c + c' ≤ e) : Rdv a e H H2 :=
  ⟨x.same.trans y.same, fun n s => (y.src _ (x.src _ s)).mono (by omega)⟩
theorem Rdv.mono {a : Addr} {c e : Int} {H H1 : Hp} (x : Rdv a c H H1) (h : c ≤ e) : Rdv a e H H1 := ⟨x.same, fun n s => (x.src _ s).mono (by omega)⟩
theorem Rdv.of {a : Addr} {H H' : Hp} (e : Same H H') : Rdv a 0 H H' := ⟨hid_same e, fun n s => (s.same e).mono (by omega)⟩
theorem Rdv.mut {a : Addr} {c : Int} {H H' : Hp} {p : Addr} {o : HO} {n : Int} (x : Rdv a c H H') (s : Rng H a n) (h : H p = none) : Rdv a c H (upd H' p o) := by
  have h1 := s.new1 h
  refine ⟨?_, fun m t => (x.src m t).keep h1⟩
  rw [hid_oth h1 h1]
  exact same_keep x.same (hid_none h)
theorem Rdv.free {a p : Addr} {c n : Int} {H H' : Hp} (x : Rdv a c H H') (s : Rng H a n) (h : H' p = none) : H p = none := by
  have h1 := (x.src n s).new1 h
  cases q : H p with
  | none => rfl
  | some o =>
    have e := (hid_get (x.same p o (hid_at q h1 h1))).1
    rw [h] at e
    cases e
theorem Rdv.made {a : Addr} {c dg seed cnt dg' cnt' : Int} {H H' : Hp} (e : Same (hid a a H) (hid a a H')) (h : H a = some (.lst [.int dg, .int seed, .int cnt]))
    (h' : H' a = some (.lst [.int dg', .int seed, .int cnt'])) (h0 : cnt ≤ cnt') (h1 : cnt' ≤ cnt + c) : Rdv a c H H' := by
  refine ⟨e, fun n s => ?_⟩
  obtain ⟨d2, s2, c2, a1, a3, a4, a5, a6⟩ := s
  rw [h] at a1
  cases a1
  exact ⟨dg', seed, cnt', h', a3, a4, by omega, by omega⟩
/-! ## an expression cut off by a word of its own -/
def tCutE (t : TE) : TE := fun σ H Q => ∃ R : V → Hp → Prop, t σ H R ∧ ∀ v H', R v H' → Q v H'
theorem pe_cutE {X : Cx} {e : Expr} {t : TE} (h : PE X e t) : PE X e (tCutE t) := ⟨fun pins s σ H Q I hw =>
  let ⟨R, h1, h2⟩ := hw
  thn (h.run pins s σ H R I h1) fun v s1 ⟨x, H1, I1, r1, q1⟩ => ⟨x, H1, I1, r1, h2 _ _ q1⟩⟩
end Rn

set_option Elab.async false
set_option linter.all false
set_option maxRecDepth 100000
set_option maxHeartbeats 4000000
namespace Rn
open PySem PySem.Spec PyProof.Rows L2
/-! ## slices between numbers, and by steps -/
theorem cut_mid (xs : List V) (a b : Nat) : cutV xs (some (a : Int)) (some (b : Int)) = (xs.drop a).take (b - a) := by
  unfold cutV
  rw [show HT.sIx xs.length 0 (some (a : Int)) = min a xs.length from HT.sIx_nat xs.length _ a, show HT.sIx xs.length xs.length (some (b : Int)) = min b xs.length from HT.sIx_nat xs.length _ b]
  by_cases ha : a ≤ xs.length
  · rw [Nat.min_eq_left ha]
    by_cases hb : b ≤ xs.length
    · rw [Nat.min_eq_left hb]
    · rw [Nat.min_eq_right (by omega), List.take_of_length_le (by rw [List.length_drop]; omega), List.take_of_length_le (by rw [List.length_drop]; omega)]
  · rw [show min a xs.length = xs.length by omega, List.drop_eq_nil_of_le (Nat.le_refl _), List.drop_eq_nil_of_le (show xs.length ≤ a by omega), List.take_nil, List.take_nil]
/-- xs[lo], xs[lo + c], .. -/
def pks {α : Type} (xs : List α) (lo c : Nat) : List α := ((List.range ((xs.length - lo + c - 1) / c)).map fun k => lo + c * k).filterMap fun i => xs[i]?
theorem pks_map {α β : Type} (f : α → β) (xs : List α) (lo c : Nat) : pks (xs.map f) lo c = (pks xs lo c).map f := by
  unfold pks
  rw [List.length_map, List.map_filterMap]
  congr 1
  funext i
  rw [List.getElem?_map]
theorem vals_at {xs : List V} {us : List Value} (h : Vals xs us) : ∀ is : List Nat, Vals (is.filterMap fun i => xs[i]?) (is.filterMap fun i => us[i]?)
  | [] => .nil
  | i :: is => by
    have ih := vals_at h is
    by_cases hi : i < xs.length
    · obtain ⟨u, hu, r⟩ := Vals.get h (List.getElem?_eq_getElem hi)
      rw [List.filterMap_cons_some (List.getElem?_eq_getElem hi), List.filterMap_cons_some hu]
      exact .cons r ih
    · rw [List.filterMap_cons_none (List.getElem?_eq_none (by omega)), List.filterMap_cons_none (List.getElem?_eq_none (by rw [← h.length]; omega))]
      exact ih
theorem pick_k (its : Array Value) (lo c : Nat) (hl : lo ≤ its.size) (hc : 1 ≤ c) : (slicePick its (some (lo : Int)) none (some (c : Int))).toList = pks its.toList lo c := by
  have hb : sliceBounds (some (lo : Int)) none (some (c : Int)) its.size = ((lo : Int), (its.size : Int), (c : Int)) := by
    unfold sliceBounds
    simp only [Option.getD_some]
    rw [if_pos (show (c : Int) > 0 by omega), if_neg (show ¬ (lo : Int) < 0 by omega)]
    refine Prod.ext ?_ (Prod.ext ?_ rfl)
    · show max 0 (min (lo : Int) its.size) = (lo : Int)
      omega
    · show (if (c : Int) > 0 then (its.size : Int) else _) = _
      rw [if_pos (show (c : Int) > 0 by omega)]
  unfold slicePick pks
  rw [hb]
  have hr : sliceRange (lo : Int) (its.size : Int) (c : Int) = (List.range ((its.toList.length - lo + c - 1) / c)).map fun k => lo + c * k := by
    unfold sliceRange
    have hn : (if (c : Int) > 0 then (if (lo : Int) < (its.size : Int) then ((its.size : Int) - lo + c - 1) / c else 0) else (if (lo : Int) > (its.size : Int) then ((lo : Int) - its.size - c - 1) / (-c) else 0)).toNat = (its.toList.length - lo + c - 1) / c := by
      rw [if_pos (show (c : Int) > 0 by omega), Array.length_toList]
      split
      · rw [show (its.size : Int) - lo + c - 1 = ((its.size - lo + c - 1 : Nat) : Int) by omega]
        rfl
      · rw [show its.size - lo + c - 1 = c - 1 by omega, Nat.div_eq_of_lt (by omega)]
        rfl
    simp only []
    rw [hn]
    refine List.map_congr_left fun k _ => ?_
    have : (c : Int) * (k : Int) = ((c * k : Nat) : Int) := by rw [Int.natCast_mul]
    rw [this]
    omega
  show (((sliceRange (lo : Int) (its.size : Int) (c : Int)).filterMap (its[·]?)).toArray).toList = _
  rw [hr]
  simp only [Array.getElem?_toList]
def tSkip (K : PySem.W.Frag) (te tl ts : TE) : TE := fun σ H Q => te σ H fun v H1 => tPart tl σ H1 fun l H2 => tPart ts σ H2 fun o H3 => ∃ lo c : Nat, l = some (lo : Int) ∧ o = some (c : Int) ∧ 1 ≤ c ∧
  ∃ (a : Addr) (xs : List V), v = .ref a ∧ SqL K H3 a xs ∧ lo ≤ xs.length ∧ xs.length ≤ 100000 ∧ ∀ p, H3 p = none → Q (.ref p) (upd H3 p (.lst (pks xs lo c)))
theorem pks_len {α : Type} (xs : List α) (lo c : Nat) (hc : 1 ≤ c) : (pks xs lo c).length ≤ xs.length := by
  unfold pks
  refine Nat.le_trans (List.length_filterMap_le _ _) ?_
  rw [List.length_map, List.length_range]
  by_cases h : xs.length - lo = 0
  · rw [h, Nat.div_eq_of_lt (by omega)]
    exact Nat.zero_le _
  · have : (xs.length - lo + c - 1) / c ≤ xs.length - lo := by
      rw [Nat.div_le_iff_le_mul (by omega)]
      have h1 : (xs.length - lo - 1) * 1 ≤ (xs.length - lo - 1) * c := Nat.mul_le_mul_left _ hc
      have h2 : (xs.length - lo) * c = (xs.length - lo - 1) * c + c := by
        rw [← Nat.succ_mul]
        congr 1
        omega
      omega
    omega
theorem pe_skip {X : Cx} {e el es : Expr} {te tl ts : TE} {p3 pos : Pos} (he : PE X e te) (hl : PE X el tl) (hs : PE X es ts) : PE X (.Subscript e (.Slice (some el) none (some es) p3) pos) (tSkip X.K te tl ts) := by
  constructor
  intro pins s σ H Q I h
  refine Subscript_ (thn (he.run pins s σ H _ I h) fun v s1 z1 => ?_)
  obtain ⟨xv, H1, I1, r1, q1⟩ := z1
  refine wpAny_Slice (thn ((po_some hl).run pins s1 σ H1 _ I1 q1) fun vl s2 z2 => ?_)
  obtain ⟨l, G2, I2, pl, q2⟩ := z2
  refine thn (po_none.run pins s2 σ G2 (fun o G => o = none ∧ G = G2) I2 ⟨rfl, rfl⟩) fun vu s3 z3 => ?_
  obtain ⟨u, G3, I3, pu, rfl, rfl⟩ := z3
  refine thn ((po_some hs).run pins s3 σ G3 _ I3 q2) fun vs s4 z4 => ?_
  obtain ⟨o, G4, I4, pst, lo, c, rfl, rfl, hc, a, xs, rfl, hx, hlo, hsz, q⟩ := z4
  cases r1
  have I5 : Inv X pins σ G4 { s4 with heap := s4.heap.push { cls := .type "slice", data := .fields #[vl, vu, vs] } } := I4.kept (t' := s4.toks) fun b ob z => Heap.get?_push_of_some _ z
  obtain ⟨its, rel, plain, room⟩ := I5.list hx
  have many : its.length = xs.length := rel.length.symm
  show wpAny (model X.prog X.w) X.A (subscriptTail e (.Slice (some el) none (some es) p3) (.ref a) (.ref s4.heap.objs.size)) (EP X pins σ Q) X.xe { s4 with heap := s4.heap.push { cls := .type "slice", data := .fields #[vl, vu, vs] } }
  refine tail_any (ops := [.ref a, .ref s4.heap.objs.size]) plain.isList.typeIs (PySem.slot_list_getitem.lookup) ?_ (by with_unfolding_all rfl)
  refine wpAny_getItem_list_slice plain.isList (Heap.IsSliceOf.new _ vl vu vs) pl pu pst (by intro z; injection z with z; omega) ?_ (by rw [List.size_toArray, many]; exact size_le hsz)
  have hp := pick_k its.toArray lo c (by rw [List.size_toArray, many]; exact hlo) hc
  have hv : Vals (pks xs lo c) (slicePick its.toArray (some (lo : Int)) none (some (c : Int))).toList := by
    rw [hp]
    unfold pks
    rw [List.toList_toArray, ← many]
    exact vals_at rel _
  generalize slicePick its.toArray (some (lo : Int)) none (some (c : Int)) = arr at *
  refine ⟨.ref _, _, I5.laid (t' := s4.toks) (o := .lst (pks xs lo c)) (fun b ob z => Heap.get?_push_of_some _ z) (Nat.le_refl _) ?_, rfl, q _ (I5.hok.fresh (Nat.le_refl _))⟩
  exact ⟨Nat.le_trans (pks_len xs lo c hc) (size_le hsz), arr.toList, 0, hv, by rw [Heap.get?_push_size _ rfl]⟩
/-! ## range(lo, hi, c), c at least 1 -/
theorem RgC.up {i j c : Int} (hc : 1 ≤ c) (hc' : c < 1000000) (hi : 0 ≤ i) (hi' : i < 1000000) (hj : 0 ≤ j) (hj' : j < 1000000) : RgC i j c (if i < j then ((j - i - 1) / c + 1).toNat else 0) := by
  have hs : Builtin.Range.rangeSize i j c = ((if i < j then ((j - i - 1) / c + 1).toNat else 0 : Nat) : Int) := by
    unfold Builtin.Range.rangeSize
    rw [if_pos (show c > 0 by omega)]
    split
    · have := Int.ediv_nonneg (show 0 ≤ j - i - 1 by omega) (show 0 ≤ c by omega)
      omega
    · rfl
  have hb : Builtin.Range.rangeSize i j c ≤ 1000000 := by
    rw [hs]
    split
    · have h0 := Int.ediv_nonneg (show 0 ≤ j - i - 1 by omega) (show 0 ≤ c by omega)
      have h1 := Int.ediv_le_self c (show (0 : Int) ≤ j - i - 1 by omega)
      omega
    · decide
  have hb0 : 0 ≤ Builtin.Range.rangeSize i j c := by rw [hs]; omega
  refine ⟨by omega, by omega, ?_, hs⟩
  unfold Builtin.Range.small
  generalize Builtin.Range.rangeSize i j c = z at *
  simp only [Builtin.Range.rangeFitsLong, Bool.and_eq_true, Bool.or_eq_true, decide_eq_true_eq, beq_iff_eq, if_pos (show c > 0 by omega)]
  refine ⟨⟨⟨⟨?_, ?_⟩, ?_⟩, ?_⟩, .inr ?_⟩ <;> omega
theorem RgC.blocks {n q : Nat} (hn : 1 ≤ n) (hq : 1 ≤ q) (hb : n * q < 1000000) : RgC (n : Int) ((n * q : Nat) : Int) (n : Int) (q - 1) := by
  have h1 : n * 1 ≤ n * q := Nat.mul_le_mul_left _ hq
  have h := RgC.up (i := (n : Int)) (j := ((n * q : Nat) : Int)) (c := (n : Int)) (by omega) (by omega) (by omega) (by omega) (by omega) (by omega)
  have e : (if (n : Int) < ((n * q : Nat) : Int) then (((((n * q : Nat) : Int) - n - 1) / n + 1).toNat) else 0) = q - 1 := by
    by_cases h2 : q = 1
    · rw [h2, if_neg (by omega)]
    · have h3 : n * q = n * (q - 2) + n + n := by
        rw [show q = q - 2 + 1 + 1 by omega, Nat.mul_succ, Nat.mul_succ]
        rfl
      rw [if_pos (by omega)]
      have h4 : (((n * q : Nat) : Int) - n - 1) / n = ((q - 2 : Nat) : Int) := by
        rw [show ((n * q : Nat) : Int) - n - 1 = ((n : Int) - 1) + n * ((q - 2 : Nat) : Int) by rw [h3]; omega, Int.add_mul_ediv_left _ _ (by omega), Int.ediv_eq_zero_of_lt (by omega) (by omega), Int.zero_add]
      rw [h4]
      omega
  rw [e] at h
  exact h
/-! ## inner numbers -/
def blk (ws : List Int) (n c : Nat) : List Int := (ws.drop (c * n)).take (n - 1)
def repB (ws : List Int) (n : Nat) : Bool := (List.range ((ws.length + 1) / n)).all fun c => decide (blk ws n c = blk ws n 0)
def innB (ws : List Int) (n : Int) : Bool := decide (1 ≤ n) && decide (((ws.length : Int) + 1) % n = 0) && repB ws n.toNat
def innL (ws : List Int) : List Int := ((List.range (ws.length + 1)).map fun i => ((i : Nat) : Int) + 1).filter (innB ws)
theorem repB_of {ws : List Int} {n : Nat} (h : ∀ c, c < (ws.length + 1) / n → blk ws n c = blk ws n 0) : repB ws n = true := by
  unfold repB
  rw [List.all_eq_true]
  intro c hc
  exact decide_eq_true (h c (List.mem_range.mp hc))
theorem repB_not {ws : List Int} {n c : Nat} (hc : c < (ws.length + 1) / n) (h : blk ws n c ≠ blk ws n 0) : repB ws n = false := by
  unfold repB
  rw [List.all_eq_false]
  exact ⟨c, List.mem_range.mpr hc, by rw [decide_eq_false h]; decide⟩
theorem blk_map (ws : List Int) (n c : Nat) : ((ws.map V.int).drop (c * n)).take (n - 1) = (blk ws n c).map V.int := by
  unfold blk
  rw [List.map_take, List.map_drop]
/-- the definition by places -/
def Per (ws : List Int) (n : Nat) : Prop := 1 ≤ n ∧ n ∣ ws.length + 1 ∧ ∀ c r, r + 1 < n → c * n + r < ws.length → ws[c * n + r]? = ws[r]?
theorem blk_get {ws : List Int} {n c r : Nat} (h : r + 1 < n) : (blk ws n c)[r]? = ws[c * n + r]? := by
  unfold blk
  rw [List.getElem?_take_of_lt (by omega), List.getElem?_drop]
theorem per_iff {ws : List Int} {n : Nat} : innB ws (n : Int) = true ↔ Per ws n := by
  unfold innB Per
  rw [Bool.and_eq_true, Bool.and_eq_true, decide_eq_true_eq, decide_eq_true_eq, Int.toNat_natCast]
  have hd : ((ws.length : Int) + 1) % (n : Int) = 0 ↔ n ∣ ws.length + 1 := by
    rw [← Int.natCast_dvd_natCast, ← Int.dvd_iff_emod_eq_zero]
    rfl
  rw [hd]
  constructor
  · rintro ⟨⟨h1, h2⟩, h3⟩
    refine ⟨by omega, h2, fun c r hr hl => ?_⟩
    unfold repB at h3
    rw [List.all_eq_true] at h3
    have hc : c < (ws.length + 1) / n := by
      rw [Nat.lt_div_iff_mul_lt' h2]
      rw [Nat.mul_comm]
      omega
    have := of_decide_eq_true (h3 c (List.mem_range.mpr hc))
    rw [← blk_get hr, this, blk_get hr, Nat.zero_mul, Nat.zero_add]
  · rintro ⟨h1, h2, h3⟩
    refine ⟨⟨by omega, h2⟩, repB_of fun c hc => ?_⟩
    obtain ⟨q, hq⟩ := h2
    have hc' : c < q := by
      rw [hq, Nat.mul_div_cancel_left _ (by omega)] at hc
      exact hc
    have hb : c * n + n ≤ ws.length + 1 := by
      rw [hq, Nat.mul_comm n q, ← Nat.succ_mul]
      exact Nat.mul_le_mul_right _ hc'
    apply List.ext_getElem?
    intro r
    by_cases hr : r + 1 < n
    · rw [blk_get hr, blk_get hr, Nat.zero_mul, Nat.zero_add]
      exact h3 c r hr (by omega)
    · rw [List.getElem?_eq_none (by unfold blk; rw [List.length_take]; omega), List.getElem?_eq_none (by unfold blk; rw [List.length_take]; omega)]
/-! ## how many different ints -/
def fM (ns : List Int) : List Int := firstMet (fun i => ns.getD i 0) ns.length
theorem fM_len (ns : List Int) : (fM ns).length ≤ ns.length := firstMet_length_le _ _
theorem fM_same (f : Nat → Int) (w : Int) : ∀ n, (∀ i, i < n + 1 → f i = w) → firstMet f (n + 1) = [w]
  | 0, h => by
    rw [firstMet_succ, show f 0 = w from h 0 (by omega)]
    rfl
  | n + 1, h => by
    rw [firstMet_succ, fM_same f w n fun i hi => h i (by omega), h (n + 1) (by omega)]
    unfold step_dedup
    simp
theorem fM_one {ns : List Int} {w : Int} (h0 : ns ≠ []) (h : ∀ x ∈ ns, x = w) : fM ns = [w] := by
  unfold fM
  obtain ⟨n, hn⟩ : ∃ n, ns.length = n + 1 := ⟨ns.length - 1, by have := List.length_pos_iff.mpr h0; omega⟩
  rw [hn]
  refine fM_same _ w n fun i hi => ?_
  have hi' : i < ns.length := by omega
  rw [List.getD_eq_getElem?_getD, List.getElem?_eq_getElem hi']
  exact h _ (List.getElem_mem hi')
theorem fM_two {ns : List Int} {x y : Int} (hx : x ∈ ns) (hy : y ∈ ns) (h : x ≠ y) : 1 < (fM ns).length := by
  have mem : ∀ z, z ∈ ns → z ∈ fM ns := fun z hz => by
    have h1 : (fM ns).any (· == z) = true := by
      unfold fM
      rw [firstMet_any, List.any_eq_true]
      obtain ⟨i, hi, e⟩ := List.getElem_of_mem hz
      refine ⟨z, List.mem_map.mpr ⟨i, List.mem_range.mpr hi, ?_⟩, by simp⟩
      show ns.getD i 0 = z
      rw [List.getD_eq_getElem?_getD, List.getElem?_eq_getElem hi]
      exact e
    obtain ⟨u, hu, e⟩ := List.any_eq_true.mp h1
    rw [← eq_of_beq e]
    exact hu
  have m1 := mem x hx
  have m2 := mem y hy
  match e : fM ns with
  | [] => rw [e] at m1; cases m1
  | [u] =>
    rw [e] at m1 m2
    exact absurd ((List.mem_singleton.mp m1).trans (List.mem_singleton.mp m2).symm) h
  | u :: v :: r => simp only [List.length_cons]; omega
def tLenSetA (K : PySem.W.Frag) (ta : TE) : TE := fun σ H Q => ta σ H fun x H1 => ∃ (l : Addr) (ns : List Int), x = .ref l ∧ SqL K H1 l (ns.map V.int) ∧ ns.length ≤ 4000 ∧ Q (.int ((fM ns).length : Nat)) H1
theorem pe_lenSetA {X : Cx} {K : PySem.W.Frag} (hK : X.K = K) {a : Expr} {ta : TE} {p p2 q pos : Pos} (hg : Gl X "len") (hm : X.mg "len" = none) (hg2 : Gl X "set") (hm2 : X.mg "set" = none) (ha : PE X a ta) (hc : X.calm = true := by rfl)
    (na : starEach [a] X.env = (false, eval a X.env) :: starEach [] X.env := by rfl) : PE X (.Call (.Name "len" p) [.Call (.Name "set" p2) [a] [] q] [] pos) (tLenSetA K ta) := by
  subst hK
  constructor
  intro pins s σ H Q I h
  refine Call_ (ld_blt I hg hm boot_len (PyProof.Rows.callWith_builtin1 (PyProof.Rows.args_cons (Call_ (ld_blt I hg2 hm2 boot_set (PyProof.Rows.callWith_type1 (PyProof.Rows.args_cons (thn (ha.run pins s σ H _ I h) fun v s1 z => PyProof.Rows.args_nil ?_) na) na rfl))) rfl) rfl rfl))
  obtain ⟨x, H1, I1, r1, l, ns, rfl, hq, hl, q1⟩ := z
  cases r1
  obtain ⟨its, rel, pl, room⟩ := I1.list hq
  have many : its.toArray.size = ns.length := by rw [List.size_toArray, ← rel.length, List.length_map]
  refine call_set_list (I1.ok.hd hc) pl.isList (by rw [List.toList_toArray]; exact RZ.intsAre_vals rel) (by rw [many]; unfold scanBound; omega) fun h' tk hS hk => PyProof.Rows.args_nil ?_
  rw [many] at hS
  obtain ⟨o, es, ep, t, ho, hex, hd, _, _, _, hf, hn⟩ := hS
  have I2 : Inv X pins σ H1 { s1 with heap := h', toks := tk } := I1.kept fun b o e => hk b o (Heap.lt_size e) e
  have le := fM_len ns
  unfold fM at le
  exact call_len_set ho hex hd hf (by rw [hn]; omega) ⟨.int ((fM ns).length : Nat), H1, I2.tok _, ⟨_, by rw [hn]; rfl⟩, q1⟩
end Rn

set_option Elab.async false
set_option linter.all false
set_option maxRecDepth 100000
set_option maxHeartbeats 4000000
namespace Rn
open PySem PySem.Spec PyProof.Rows L2
/-! ## periods: by numbers of waits -/
/-- wait number j (from 1) -/
def wt (ws : List Int) (j : Nat) : Option Int := ws[j - 1]?
def PerC (ws : List Int) (n : Nat) : Prop := 1 ≤ n ∧ n ∣ ws.length + 1 ∧ ∀ i j, 1 ≤ i → i < ws.length + 1 → 1 ≤ j → j < ws.length + 1 → i % n = j % n → i % n ≠ 0 → wt ws i = wt ws j
theorem per_c {ws : List Int} {n : Nat} : Per ws n ↔ PerC ws n := by
  constructor
  · rintro ⟨h1, h2, h3⟩
    have key : ∀ i, 1 ≤ i → i < ws.length + 1 → i % n ≠ 0 → wt ws i = ws[i % n - 1]? := fun i i1 i2 i3 => by
      have e := Nat.div_add_mod i n
      have hm := Nat.mod_lt i (show n > 0 by omega)
      have := h3 (i / n) (i % n - 1) (by omega) (by rw [Nat.mul_comm]; omega)
      rw [← this]
      unfold wt
      congr 1
      rw [Nat.mul_comm]
      omega
    exact ⟨h1, h2, fun i j i1 i2 j1 j2 e z => by rw [key i i1 i2 z, key j j1 j2 (by rw [← e]; exact z), e]⟩
  · rintro ⟨h1, h2, h3⟩
    refine ⟨h1, h2, fun c r hr hl => ?_⟩
    have m1 : (c * n + r + 1) % n = r + 1 := by
      rw [Nat.add_assoc, Nat.mul_comm, Nat.mul_add_mod, Nat.mod_eq_of_lt (by omega)]
    have m2 : (r + 1) % n = r + 1 := Nat.mod_eq_of_lt hr
    have := h3 (c * n + r + 1) (r + 1) (by omega) (by omega) (by omega) (by
      have : r ≤ c * n + r := Nat.le_add_left _ _
      omega) (by rw [m1, m2]) (by rw [m1]; omega)
    exact this
/-- what stays under steps of a and of b stays under steps of their greatest common divisor -/
theorem gcd_step {α : Type} {g : Nat} {W : Nat → α} {C : Nat → Prop} (hC : ∀ x d, g ∣ d → C x → C (x + d)) (a b : Nat) : g ∣ a → g ∣ b → (∀ x, C x → W (x + a) = W x) → (∀ x, C x → W (x + b) = W x) → ∀ x, C x → W (x + Nat.gcd a b) = W x := by
  induction a, b using Nat.gcd.induction with
  | H0 b => intro _ _ _ hb x hx; rw [Nat.gcd_zero_left]; exact hb x hx
  | H1 a b ha ih =>
    intro ga gb h1 h2 x hx
    rw [Nat.gcd_rec]
    have gm : g ∣ b % a := (Nat.dvd_mod_iff ga).mpr gb
    have many : ∀ q y, C y → W (y + a * q) = W y := by
      intro q
      induction q with
      | zero => intro y _; rfl
      | succ q ih => intro y hy; rw [Nat.mul_succ, ← Nat.add_assoc, h1 _ (hC y _ (Nat.dvd_mul_right_of_dvd ga q) hy), ih y hy]
    refine ih gm ga (fun y hy => ?_) h1 x hx
    rw [← many (b / a) (y + b % a) (hC y _ gm hy), Nat.add_assoc, Nat.mod_add_div]
    exact h2 y hy
/-- .. and any number of steps -/
theorem steps {α : Type} {g : Nat} {W : Nat → α} {C : Nat → Prop} (hC : ∀ x d, g ∣ d → C x → C (x + d)) {d : Nat} (gd : g ∣ d) (h : ∀ x, C x → W (x + d) = W x) : ∀ k x, C x → W (x + d * k) = W x
  | 0, x, _ => rfl
  | k + 1, x, hx => by rw [Nat.mul_succ, ← Nat.add_assoc, h _ (hC x _ (Nat.dvd_mul_right_of_dvd gd k) hx), steps hC gd h k x hx]
theorem not_dvd_add {g : Nat} (x d : Nat) (h : g ∣ d) (hx : ¬ g ∣ x) : ¬ g ∣ x + d := fun z => hx ((Nat.dvd_add_iff_left h).mpr z)
/-- some number of steps of a leads from x to 1, by b -/
theorem lead {a b : Nat} (hb : 1 ≤ b) (h : Nat.gcd a b = 1) (x : Nat) : ∃ m, (x + m * a) % b = 1 % b := by
  let R : Nat → Prop := fun x => ∃ m, (x + m * a) % b = 1 % b
  have hA : ∀ x, True → R (x + a) = R x := fun x _ => propext ⟨fun ⟨m, e⟩ => ⟨m + 1, by rw [← e]; congr 1; rw [Nat.succ_mul]; omega⟩, fun ⟨m, e⟩ => ⟨m + (b - 1), by
    rw [← e]
    have : x + a + (m + (b - 1)) * a = x + m * a + b * a := by
      have e1 : b * a = (b - 1) * a + a := by rw [← Nat.succ_mul]; congr 1; omega
      rw [e1, Nat.add_mul]
      omega
    rw [this, Nat.add_mul_mod_self_left]⟩⟩
  have hB : ∀ x, True → R (x + b) = R x := fun x _ => propext ⟨fun ⟨m, e⟩ => ⟨m, by rw [← e, show x + b + m * a = x + m * a + b by omega, Nat.add_mod_right]⟩, fun ⟨m, e⟩ => ⟨m, by rw [← e, show x + b + m * a = x + m * a + b by omega, Nat.add_mod_right]⟩⟩
  have h1 := gcd_step (g := 1) (W := R) (C := fun _ => True) (fun _ _ _ _ => trivial) a b (Nat.one_dvd _) (Nat.one_dvd _) hA hB
  rw [h] at h1
  have h2 := steps (g := 1) (W := R) (C := fun _ => True) (fun _ _ _ _ => trivial) (Nat.one_dvd 1) h1
  have h3 : R 1 := ⟨0, by rw [Nat.zero_mul, Nat.add_zero]⟩
  have h4 : R 0 := by
    have := h1 0 trivial
    rw [← this]
    exact h3
  have := h2 x 0 trivial
  rw [Nat.zero_add, Nat.one_mul] at this
  show R x
  rw [this]
  exact h4
theorem wt_ring {ws : List Int} {n : Nat} (h : PerC ws n) : ∀ x, ¬ n ∣ x → wt ws ((x + n) % (ws.length + 1)) = wt ws (x % (ws.length + 1)) := fun x hx => by
  obtain ⟨h1, h2, h3⟩ := h
  have d1 : (x + n) % (ws.length + 1) % n = x % n := by rw [Nat.mod_mod_of_dvd _ h2, Nat.add_mod_right]
  have d2 : x % (ws.length + 1) % n = x % n := Nat.mod_mod_of_dvd _ h2
  have z : x % n ≠ 0 := fun e => hx (Nat.dvd_of_mod_eq_zero e)
  have nz : ∀ y, y % n ≠ 0 → 1 ≤ y := fun y e => by
    cases y with
    | zero => rw [Nat.zero_mod] at e; exact absurd rfl e
    | succ y => omega
  exact h3 _ _ (nz _ (by rw [d1]; exact z)) (Nat.mod_lt _ (by omega)) (nz _ (by rw [d2]; exact z)) (Nat.mod_lt _ (by omega)) (by rw [d1, d2]) (by rw [d1]; exact z)
theorem per_gcd {ws : List Int} {a b : Nat} (ha : PerC ws a) (hb : PerC ws b) : PerC ws (Nat.gcd a b) := by
  have g1 : 1 ≤ Nat.gcd a b := Nat.gcd_pos_of_pos_left _ ha.1
  have ga := Nat.gcd_dvd_left a b
  have gb := Nat.gcd_dvd_right a b
  have step := gcd_step (g := Nat.gcd a b) (W := fun x => wt ws (x % (ws.length + 1))) (C := fun x => ¬ Nat.gcd a b ∣ x) (fun x d hd hx => not_dvd_add x d hd hx) a b ga gb
    (fun x hx => wt_ring ha x fun z => hx (Nat.dvd_trans ga z)) (fun x hx => wt_ring hb x fun z => hx (Nat.dvd_trans gb z))
  generalize Nat.gcd a b = g at *
  have many := steps (g := g) (W := fun x => wt ws (x % (ws.length + 1))) (C := fun x => ¬ g ∣ x) (fun x d hd hx => not_dvd_add x d hd hx) (Nat.dvd_refl g) step
  have base : ∀ i, 1 ≤ i → i < ws.length + 1 → i % g ≠ 0 → wt ws i = wt ws ((i % g) % (ws.length + 1)) := fun i i1 i2 i3 => by
    have m0 := Nat.mod_lt i (show g > 0 by omega)
    have := many (i / g) (i % g) (fun z => i3 (by
      have := Nat.eq_zero_of_dvd_of_lt z m0
      exact this))
    rw [Nat.mod_add_div, Nat.mod_eq_of_lt i2] at this
    exact this
  exact ⟨g1, Nat.dvd_trans ga ha.2.1, fun i j i1 i2 j1 j2 e z => by rw [base i i1 i2 z, base j j1 j2 (by rw [← e]; exact z), e]⟩
theorem per_lcm {ws : List Int} {a b : Nat} (ha : PerC ws a) (hb : PerC ws b) : PerC ws (Nat.lcm a b) := by
  have la := Nat.dvd_lcm_left a b
  have lb := Nat.dvd_lcm_right a b
  refine ⟨Nat.lcm_pos ha.1 hb.1, Nat.lcm_dvd ha.2.1 hb.2.1, fun i j i1 i2 j1 j2 e z => ?_⟩
  have ea : i % a = j % a := by rw [← Nat.mod_mod_of_dvd i la, e, Nat.mod_mod_of_dvd j la]
  have eb : i % b = j % b := by rw [← Nat.mod_mod_of_dvd i lb, e, Nat.mod_mod_of_dvd j lb]
  by_cases za : i % a = 0
  · by_cases zb : i % b = 0
    · exact absurd (Nat.mod_eq_zero_of_dvd (Nat.lcm_dvd (Nat.dvd_of_mod_eq_zero za) (Nat.dvd_of_mod_eq_zero zb))) z
    · exact hb.2.2 i j i1 i2 j1 j2 eb zb
  · exact ha.2.2 i j i1 i2 j1 j2 ea za
/-- between the greatest common divisor and the least common multiple all waits are equal -/
theorem per_between {ws : List Int} {g p q : Nat} (hp : PerC ws (g * p)) (hq : PerC ws (g * q)) (hc : Nat.gcd p q = 1) (hp1 : p ≠ 1) (hq1 : q ≠ 1) :
    ∀ k, 1 ≤ k → k < p * q → wt ws (g * k) = wt ws g := by
  have g0 : 1 ≤ g := by
    cases g with
    | zero => have := hp.1; rw [Nat.zero_mul] at this; omega
    | succ g => omega
  have p0 : 2 ≤ p := by
    have : p ≠ 0 := fun z => by have := hp.1; rw [z, Nat.mul_zero] at this; omega
    omega
  have q0 : 2 ≤ q := by
    have : q ≠ 0 := fun z => by have := hq.1; rw [z, Nat.mul_zero] at this; omega
    omega
  have bound : g * (p * q) ≤ ws.length + 1 := by
    have h1 : Nat.lcm (g * p) (g * q) ∣ ws.length + 1 := Nat.lcm_dvd hp.2.1 hq.2.1
    have h2 : Nat.lcm (g * p) (g * q) = g * (p * q) := by
      rw [Nat.lcm_mul_left]
      congr 1
      unfold Nat.lcm
      rw [hc, Nat.div_one]
    rw [h2] at h1
    exact Nat.le_of_dvd (by omega) h1
  -- steps through one of them
  have via : ∀ (a b : Nat), 2 ≤ a → 2 ≤ b → Nat.gcd a b = 1 → PerC ws (g * a) → PerC ws (g * b) → ∀ k, 1 ≤ k → g * k < ws.length + 1 → ¬ a ∣ k → wt ws (g * k) = wt ws g := fun a b a2 b2 hab ha hb k k1 k2 hk => by
    obtain ⟨m, hm⟩ := lead (a := a) (b := b) (by omega) hab k
    have hm1 : (k + m * a) % b = 1 := by rw [hm, Nat.mod_eq_of_lt (by omega)]
    have nd : ¬ g * a ∣ g * k := fun z => hk (Nat.dvd_of_mul_dvd_mul_left (by omega) z)
    have s1 := steps (g := g * a) (W := fun x => wt ws (x % (ws.length + 1))) (C := fun x => ¬ g * a ∣ x) (fun x d hd hx => not_dvd_add x d hd hx) (Nat.dvd_refl _) (wt_ring ha) m (g * k) nd
    have s1' : wt ws ((g * k + g * a * m) % (ws.length + 1)) = wt ws (g * k % (ws.length + 1)) := s1
    rw [Nat.mod_eq_of_lt k2] at s1'
    rw [← s1']
    have e : g * k + g * a * m = g + g * b * ((k + m * a) / b) := by
      have h := Nat.div_add_mod (k + m * a) b
      rw [hm1] at h
      generalize (k + m * a) / b = t at *
      have h2 : g * (k + m * a) = g * (b * t + 1) := by rw [h]
      rw [Nat.mul_add, Nat.mul_add, Nat.mul_one] at h2
      rw [show g * a * m = g * (m * a) by rw [Nat.mul_assoc, Nat.mul_comm a m], Nat.mul_assoc g b t]
      omega
    rw [e]
    have nd1 : ¬ g * b ∣ g := fun z => by
      have := Nat.le_of_dvd (by omega) z
      have h3 : g * 2 ≤ g * b := Nat.mul_le_mul_left _ b2
      omega
    have s2 := steps (g := g * b) (W := fun x => wt ws (x % (ws.length + 1))) (C := fun x => ¬ g * b ∣ x) (fun x d hd hx => not_dvd_add x d hd hx) (Nat.dvd_refl _) (wt_ring hb) ((k + m * a) / b) g nd1
    have s2' : wt ws ((g + g * b * ((k + m * a) / b)) % (ws.length + 1)) = wt ws (g % (ws.length + 1)) := s2
    rw [s2']
    have hg : g < ws.length + 1 := by
      have : g * 1 ≤ g * k := Nat.mul_le_mul_left _ k1
      omega
    rw [Nat.mod_eq_of_lt hg]
  intro k k1 k2
  have k3 : g * k < ws.length + 1 := Nat.lt_of_lt_of_le (Nat.mul_lt_mul_of_pos_left k2 (by omega)) bound
  by_cases z : p ∣ k
  · have z2 : ¬ q ∣ k := fun z2 => by
      have : Nat.lcm p q ∣ k := Nat.lcm_dvd z z2
      unfold Nat.lcm at this
      rw [hc, Nat.div_one] at this
      have := Nat.le_of_dvd (by omega) this
      omega
    exact via q p q0 p0 (by rw [Nat.gcd_comm]; exact hc) hq hp k k1 k3 z2
  · exact via p q p0 q0 hc hp hq k k1 k3 z
/-! ## the list of inner numbers -/
theorem mem_innL {ws : List Int} {x : Int} : x ∈ innL ws ↔ ∃ n : Nat, x = (n : Int) ∧ PerC ws n := by
  unfold innL
  rw [List.mem_filter, List.mem_map]
  constructor
  · rintro ⟨⟨i, hi, rfl⟩, h⟩
    exact ⟨i + 1, rfl, per_c.mp (per_iff.mp h)⟩
  · rintro ⟨n, rfl, h⟩
    have h1 := h.1
    have h2 := Nat.le_of_dvd (by omega) h.2.1
    exact ⟨⟨n - 1, List.mem_range.mpr (by omega), by omega⟩, per_iff.mpr (per_c.mpr h)⟩
theorem innL_sorted (ws : List Int) : (innL ws).Pairwise (· < ·) := by
  unfold innL
  refine List.Pairwise.filter _ ?_
  rw [List.pairwise_map]
  exact List.pairwise_lt_range.imp fun h => by omega
theorem innL_len (ws : List Int) : (innL ws).length ≤ ws.length + 1 := by
  unfold innL
  refine Nat.le_trans (List.length_filter_le _ _) ?_
  rw [List.length_map, List.length_range]
  exact Nat.le_refl _
theorem sorted_ext : ∀ {xs ys : List Int}, xs.Pairwise (· < ·) → ys.Pairwise (· < ·) → (∀ x, x ∈ xs ↔ x ∈ ys) → xs = ys
  | [], [], _, _, _ => rfl
  | [], y :: ys, _, _, h => absurd ((h y).mpr List.mem_cons_self) (List.not_mem_nil)
  | x :: xs, [], _, _, h => absurd ((h x).mp List.mem_cons_self) (List.not_mem_nil)
  | x :: xs, y :: ys, hx, hy, h => by
    obtain ⟨x1, x2⟩ := List.pairwise_cons.mp hx
    obtain ⟨y1, y2⟩ := List.pairwise_cons.mp hy
    have e : x = y := by
      rcases List.mem_cons.mp ((h x).mp List.mem_cons_self) with z | z
      · exact z
      · rcases List.mem_cons.mp ((h y).mpr List.mem_cons_self) with u | u
        · exact u.symm
        · have := y1 x z
          have := x1 y u
          omega
    subst e
    rw [sorted_ext x2 y2 fun z => ⟨fun m => ?_, fun m => ?_⟩]
    · rcases List.mem_cons.mp ((h z).mp (List.mem_cons_of_mem _ m)) with u | u
      · have := x1 z m
        omega
      · exact u
    · rcases List.mem_cons.mp ((h z).mpr (List.mem_cons_of_mem _ m)) with u | u
      · have := y1 z m
        omega
      · exact u
/-! ## the two parts of a split -/
theorem low_len {ws : List Int} {n : Nat} (h : PerC ws n) : (blk ws n 0).length = n - 1 := by
  have h1 := Nat.le_of_dvd (by omega) h.2.1
  unfold blk
  rw [Nat.zero_mul, List.drop_zero, List.length_take]
  omega
theorem low_wt {ws : List Int} {n j : Nat} (h1 : 1 ≤ j) (h2 : j < n) : wt (blk ws n 0) j = wt ws j := by
  unfold wt
  rw [blk_get (by omega), Nat.zero_mul, Nat.zero_add]
theorem at_all (ws : List Int) : ∀ is : List Nat, (∀ i ∈ is, i < ws.length) → is.filterMap (fun i => ws[i]?) = is.map fun i => ws.getD i 0
  | [], _ => rfl
  | i :: is, h => by
    have hi := h i List.mem_cons_self
    rw [List.filterMap_cons_some (List.getElem?_eq_getElem hi), List.map_cons, at_all ws is fun j hj => h j (List.mem_cons_of_mem _ hj), List.getD_eq_getElem?_getD, List.getElem?_eq_getElem hi]
    rfl
theorem high_is {ws : List Int} {n q : Nat} (hn : 1 ≤ n) (hq : 1 ≤ q) (h : ws.length + 1 = n * q) : pks ws (n - 1) n = (List.range (q - 1)).map fun k => ws.getD (n - 1 + n * k) 0 := by
  have b1 : n * 1 ≤ n * q := Nat.mul_le_mul_left _ hq
  have e : (ws.length - (n - 1) + n - 1) / n = q - 1 := by
    have h2 : n * q = n * (q - 1) + n := by
      rw [← Nat.mul_succ]
      congr 1
      omega
    rw [show ws.length - (n - 1) + n - 1 = n - 1 + n * (q - 1) by omega, Nat.add_mul_div_left _ _ (by omega), Nat.div_eq_of_lt (by omega), Nat.zero_add]
  unfold pks
  rw [e, at_all ws _ fun i hi => ?_, List.map_map]
  · rfl
  · obtain ⟨k, hk, rfl⟩ := List.mem_map.mp hi
    have hk' := List.mem_range.mp hk
    have h3 : n * (k + 2) ≤ n * q := Nat.mul_le_mul_left _ (by omega)
    rw [Nat.mul_add] at h3
    omega
theorem high_len {ws : List Int} {n q : Nat} (hn : 1 ≤ n) (hq : 1 ≤ q) (h : ws.length + 1 = n * q) : (pks ws (n - 1) n).length = q - 1 := by
  rw [high_is hn hq h, List.length_map, List.length_range]
theorem high_wt {ws : List Int} {n q j : Nat} (hn : 1 ≤ n) (hq : 1 ≤ q) (h : ws.length + 1 = n * q) (h1 : 1 ≤ j) (h2 : j < q) : wt (pks ws (n - 1) n) j = wt ws (n * j) := by
  have h3 : n * (j + 1) ≤ n * q := Nat.mul_le_mul_left _ (by omega)
  have h4 : n * j = n * (j - 1) + n := by
    rw [← Nat.mul_succ]
    congr 1
    omega
  rw [Nat.mul_add] at h3
  unfold wt
  rw [high_is hn hq h, List.getElem?_map, List.getElem?_range (by omega), show n * j - 1 = n - 1 + n * (j - 1) by omega]
  show some (ws.getD (n - 1 + n * (j - 1)) 0) = _
  rw [List.getD_eq_getElem?_getD, List.getElem?_eq_getElem (by omega)]
  rfl
theorem per_low {ws : List Int} {n m : Nat} (h : PerC ws n) : PerC (blk ws n 0) m ↔ PerC ws m ∧ m ∣ n := by
  have hl := low_len h
  have h1 := h.1
  have hN := Nat.le_of_dvd (by omega) h.2.1
  have e1 : (blk ws n 0).length + 1 = n := by omega
  constructor
  · rintro ⟨m1, m2, m3⟩
    rw [e1] at m2 m3
    refine ⟨⟨m1, Nat.dvd_trans m2 h.2.1, fun i j i1 i2 j1 j2 e z => ?_⟩, m2⟩
    have red : ∀ i, 1 ≤ i → i < ws.length + 1 → i % m ≠ 0 → 1 ≤ i % n ∧ i % n < n ∧ wt ws i = wt (blk ws n 0) (i % n) ∧ i % n % m = i % m := fun i i1 i2 z => by
      have q1 : i % n % m = i % m := Nat.mod_mod_of_dvd _ m2
      have q2 := Nat.mod_lt i (show n > 0 by omega)
      have q3 : i % n ≠ 0 := fun y => by rw [y, Nat.zero_mod] at q1; exact z q1.symm
      refine ⟨by omega, q2, ?_, q1⟩
      rw [low_wt (by omega) q2]
      exact h.2.2 i (i % n) i1 i2 (by omega) (by omega) (Nat.mod_mod _ _).symm q3
    obtain ⟨a1, a2, a3, a4⟩ := red i i1 i2 z
    obtain ⟨b1, b2, b3, b4⟩ := red j j1 j2 (by rw [← e]; exact z)
    rw [a3, b3]
    exact m3 _ _ a1 a2 b1 b2 (by rw [a4, b4, e]) (by rw [a4]; exact z)
  · rintro ⟨⟨m1, m2, m3⟩, m4⟩
    refine ⟨m1, by rw [e1]; exact m4, ?_⟩
    rw [e1]
    intro i j i1 i2 j1 j2 e z
    rw [low_wt i1 i2, low_wt j1 j2]
    exact m3 i j i1 (by omega) j1 (by omega) e z
theorem per_high {ws : List Int} {n m : Nat} (h : PerC ws n) (hm : 1 ≤ m) : PerC (pks ws (n - 1) n) m ↔ PerC ws (n * m) := by
  have h1 := h.1
  obtain ⟨q, hq⟩ := h.2.1
  have q1 : 1 ≤ q := by
    cases q with
    | zero => rw [Nat.mul_zero] at hq; omega
    | succ q => omega
  have e1 : (pks ws (n - 1) n).length + 1 = q := by rw [high_len h1 q1 hq]; omega
  have lt : ∀ j, j < q → n * j < ws.length + 1 := fun j hj => by rw [hq]; exact Nat.mul_lt_mul_of_pos_left hj (by omega)
  have pos : ∀ j, 1 ≤ j → 1 ≤ n * j := fun j hj => Nat.mul_pos (by omega) (by omega)
  constructor
  · rintro ⟨m1, m2, m3⟩
    rw [e1] at m2 m3
    refine ⟨pos m m1, by rw [hq]; exact Nat.mul_dvd_mul_left n m2, fun i j i1 i2 j1 j2 e z => ?_⟩
    have en : i % n = j % n := by rw [← Nat.mod_mod_of_dvd i (Nat.dvd_mul_right n m), e, Nat.mod_mod_of_dvd j (Nat.dvd_mul_right n m)]
    by_cases zn : i % n = 0
    · obtain ⟨i', rfl⟩ := Nat.dvd_of_mod_eq_zero zn
      obtain ⟨j', rfl⟩ := Nat.dvd_of_mod_eq_zero (show j % n = 0 by rw [← en]; exact zn)
      have i1' : 1 ≤ i' := by
        cases i' with
        | zero => rw [Nat.mul_zero] at i1; omega
        | succ i => omega
      have j1' : 1 ≤ j' := by
        cases j' with
        | zero => rw [Nat.mul_zero] at j1; omega
        | succ i => omega
      rw [hq] at i2 j2
      have i2' := Nat.lt_of_mul_lt_mul_left i2
      have j2' := Nat.lt_of_mul_lt_mul_left j2
      rw [Nat.mul_mod_mul_left, Nat.mul_mod_mul_left] at e
      rw [Nat.mul_mod_mul_left] at z
      rw [← high_wt h1 q1 hq i1' i2', ← high_wt h1 q1 hq j1' j2']
      exact m3 i' j' i1' i2' j1' j2' (Nat.eq_of_mul_eq_mul_left (by omega) e) (fun y => z (by rw [y, Nat.mul_zero]))
    · exact h.2.2 i j i1 i2 j1 j2 en zn
  · rintro ⟨m1, m2, m3⟩
    refine ⟨hm, ?_, ?_⟩
    · rw [e1]
      rw [hq] at m2
      exact Nat.dvd_of_mul_dvd_mul_left (by omega) m2
    · rw [e1]
      intro i j i1 i2 j1 j2 e z
      rw [high_wt h1 q1 hq i1 i2, high_wt h1 q1 hq j1 j2]
      refine m3 _ _ (pos i i1) (lt i i2) (pos j j1) (lt j j2) ?_ ?_
      · rw [Nat.mul_mod_mul_left, Nat.mul_mod_mul_left, e]
      · rw [Nat.mul_mod_mul_left]
        intro y
        rcases Nat.mul_eq_zero.mp y with y | y
        · omega
        · exact z y
/-! ## ints in lists -/
theorem flat_ints (ns : List Int) : (ns.map V.int).all flatV = true := by
  rw [List.all_eq_true]
  intro v hv
  obtain ⟨n, _, rfl⟩ := List.mem_map.mp hv
  rfl
theorem inV_ints (x : Int) (ns : List Int) : inV (.int x) (ns.map V.int) = decide (x ∈ ns) := by
  unfold inV
  rw [List.any_map, Bool.eq_iff_iff, List.any_eq_true, decide_eq_true_eq]
  constructor
  · rintro ⟨n, hn, e⟩
    have e' : (n == x) = true := e
    rw [← eq_of_beq e']
    exact hn
  · intro h
    exact ⟨x, h, by show (x == x) = true; exact BEq.rfl⟩
theorem pair_parts {a b : Nat} (ha : 1 ≤ a) : ∃ p q, a = Nat.gcd a b * p ∧ b = Nat.gcd a b * q ∧ Nat.gcd p q = 1 ∧ Nat.lcm a b = Nat.gcd a b * (p * q) := by
  have g0 : 0 < Nat.gcd a b := Nat.gcd_pos_of_pos_left _ ha
  obtain ⟨p, hp⟩ := Nat.gcd_dvd_left a b
  obtain ⟨q, hq⟩ := Nat.gcd_dvd_right a b
  have hg : Nat.gcd a b * Nat.gcd p q = Nat.gcd a b * 1 := by
    rw [← Nat.gcd_mul_left, ← hp, ← hq, Nat.mul_one]
  have h1 := Nat.eq_of_mul_eq_mul_left g0 hg
  refine ⟨p, q, hp, hq, h1, ?_⟩
  have : Nat.lcm (Nat.gcd a b * p) (Nat.gcd a b * q) = Nat.gcd a b * (p * q) := by
    rw [Nat.lcm_mul_left]
    congr 1
    unfold Nat.lcm
    rw [h1, Nat.div_one]
  rw [← hp, ← hq] at this
  exact this
end Rn

set_option Elab.async false
set_option linter.all false
set_option maxRecDepth 100000
set_option maxHeartbeats 4000000
namespace Rn
open PySem PySem.Spec PyProof.Rows L2
/-! ## unsplittable policies -/
theorem per_one (ws : List Int) : Per ws 1 := ⟨Nat.le_refl _, Nat.one_dvd _, fun c r h _ => absurd h (by omega)⟩
theorem per_all (ws : List Int) : Per ws (ws.length + 1) := ⟨by omega, Nat.dvd_refl _, fun c r h1 h2 => by
  have : c = 0 := by
    rcases Nat.eq_zero_or_pos c with z | z
    · exact z
    · have : 1 * (ws.length + 1) ≤ c * (ws.length + 1) := Nat.mul_le_mul_right _ z
      omega
  rw [this, Nat.zero_mul, Nat.zero_add]⟩
theorem per_const {m n : Nat} {w : Int} : Per (List.replicate m w) n ↔ 1 ≤ n ∧ n ∣ m + 1 := by
  constructor
  · rintro ⟨h1, h2, _⟩
    rw [List.length_replicate] at h2
    exact ⟨h1, h2⟩
  · rintro ⟨h1, h2⟩
    refine ⟨h1, by rw [List.length_replicate]; exact h2, fun c r h3 h4 => ?_⟩
    rw [List.length_replicate] at h4
    rw [List.getElem?_replicate, List.getElem?_replicate, if_pos h4, if_pos (by
      have : r ≤ c * n + r := Nat.le_add_left _ _
      omega)]
theorem per_nest (xs ys : List Int) : Per (nestL xs ys) (xs.length + 1) := by
  have hl := nestL_len xs ys
  refine ⟨by omega, ⟨ys.length + 1, hl⟩, fun c r h1 h2 => ?_⟩
  have h3 : r ≤ c * (xs.length + 1) + r := Nat.le_add_left _ _
  rw [nestL_get _ _ _ h2, nestL_get _ _ r (by omega)]
  have m1 : (c * (xs.length + 1) + r + 1) % (xs.length + 1) = r + 1 := by
    rw [Nat.add_assoc, Nat.mul_comm, Nat.mul_add_mod, Nat.mod_eq_of_lt (by omega)]
  have m2 : (r + 1) % (xs.length + 1) = r + 1 := Nat.mod_eq_of_lt (by omega)
  rw [m1, m2, if_neg (by omega), if_neg (by omega)]
theorem inn_false {ws : List Int} {j : Nat} (h : ¬ Per ws j) : innB ws (j : Int) = false := by
  cases e : innB ws (j : Int) with
  | false => rfl
  | true => exact absurd (per_iff.mp e) h
/-- not trivial and nothing between 1 and all is an inner number -/
def Uns (ws : List Int) : Prop := 0 < ws.length ∧ ∀ j : Nat, 2 ≤ j → j < ws.length + 1 → innB ws (j : Int) = false
def unsB (ws : List Int) : Bool := decide (0 < ws.length) && (List.range (ws.length + 1)).all fun j => !(decide (2 ≤ j) && innB ws ((j : Nat) : Int))
theorem uns_iff {ws : List Int} : unsB ws = true ↔ Uns ws := by
  unfold unsB Uns
  rw [Bool.and_eq_true, decide_eq_true_eq, List.all_eq_true]
  constructor
  · rintro ⟨h1, h2⟩
    refine ⟨h1, fun j j1 j2 => ?_⟩
    have := h2 j (List.mem_range.mpr j2)
    rw [decide_eq_true j1, Bool.true_and] at this
    simpa using this
  · rintro ⟨h1, h2⟩
    refine ⟨h1, fun j hj => ?_⟩
    by_cases c : 2 ≤ j
    · rw [h2 j c (List.mem_range.mp hj), Bool.and_false]
      rfl
    · rw [decide_eq_false c, Bool.false_and]
      rfl
/-- the smallest inner number above 1 -/
def Sm (ws : List Int) (m : Nat) : Prop := (m = ws.length + 1 ∨ (2 ≤ m ∧ m < ws.length + 1 ∧ innB ws (m : Int) = true)) ∧ ∀ j : Nat, 2 ≤ j → j < m → innB ws (j : Int) = false
theorem sm_uns {ws : List Int} {m : Nat} (h : Sm ws m) (h0 : 0 < ws.length) : m = ws.length + 1 ↔ Uns ws := by
  constructor
  · intro e
    exact ⟨h0, fun j j1 j2 => h.2 j j1 (by omega)⟩
  · intro u
    rcases h.1 with e | ⟨h1, h2, h3⟩
    · exact e
    · rw [u.2 m h1 h2] at h3
      cases h3
theorem innL_two {ws : List Int} (h0 : 0 < ws.length) : innL ws = [1, (ws.length : Int) + 1] ↔ Uns ws := by
  constructor
  · intro e
    refine ⟨h0, fun j j1 j2 => inn_false fun hp => ?_⟩
    have hm : (j : Int) ∈ innL ws := mem_innL.mpr ⟨j, rfl, per_c.mp hp⟩
    rw [e] at hm
    simp only [List.mem_cons, List.not_mem_nil, or_false] at hm
    omega
  · intro u
    refine sorted_ext (innL_sorted ws) ?_ fun x => ?_
    · exact List.pairwise_cons.mpr ⟨fun x hx => by rw [List.mem_singleton.mp hx]; omega, List.pairwise_singleton _ _⟩
    · rw [mem_innL]
      simp only [List.mem_cons, List.not_mem_nil, or_false]
      constructor
      · rintro ⟨n, rfl, c⟩
        have n1 := c.1
        have n2 := Nat.le_of_dvd (by omega) c.2.1
        by_cases z1 : n = 1
        · exact .inl (by omega)
        · by_cases z2 : n = ws.length + 1
          · exact .inr (by omega)
          · have := u.2 n (by omega) (by omega)
            rw [per_iff.mpr (per_c.mpr c)] at this
            cases this
      · rintro (rfl | rfl)
        · exact ⟨1, rfl, per_c.mp (per_one ws)⟩
        · exact ⟨ws.length + 1, by push_cast; rfl, per_c.mp (per_all ws)⟩
theorem uns_const {m : Nat} {w : Int} : Uns (List.replicate m w) ↔ 0 < m ∧ ∀ j : Nat, 2 ≤ j → j < m + 1 → ¬ j ∣ m + 1 := by
  unfold Uns
  rw [List.length_replicate]
  constructor
  · rintro ⟨h1, h2⟩
    refine ⟨h1, fun j j1 j2 d => ?_⟩
    have := h2 j j1 j2
    rw [per_iff.mpr (per_const.mpr ⟨by omega, d⟩)] at this
    cases this
  · rintro ⟨h1, h2⟩
    exact ⟨h1, fun j j1 j2 => inn_false fun hp => h2 j j1 j2 (per_const.mp hp).2⟩
end Rn
namespace Rn
open PySem PySem.Spec PyProof.Rows L2
theorem sq_draw {K : PySem.W.Frag} {H0 H1 H' : Hp} {sa a : Addr} {c : Int} {xs : List V} (h : SqL K H0 sa xs) (f : H0 a = none) (s : Same H0 H1) (A : Rdv a c H1 H') : SqL K H' sa xs := by
  rcases h with (h | ⟨o, h⟩) | h
  · have ne : sa ≠ a := fun z => by rw [z, f] at h; cases h
    exact .inl (.inl (hid_get (A.same _ _ (hid_at (s _ _ h) ne ne))).1)
  · have ne : sa ≠ a := fun z => by rw [z, f] at h; cases h
    exact .inl (.inr ⟨o, (hid_get (A.same _ _ (hid_at (s _ _ h) ne ne))).1⟩)
  · exact .inr h
end Rn
namespace Rn
open PySem PySem.Spec PyProof.Rows L2
theorem nest_split {ws : List Int} {n : Nat} (h : PerC ws n) : nestL (blk ws n 0) (pks ws (n - 1) n) = ws := by
  obtain ⟨q, hq⟩ := h.2.1
  have n1 := h.1
  have q1 : 1 ≤ q := by
    rcases Nat.eq_zero_or_pos q with z | z
    · rw [z, Nat.mul_zero] at hq; omega
    · exact z
  have l1 := low_len h
  have l2 := high_len n1 q1 hq
  have ln := nestL_len (blk ws n 0) (pks ws (n - 1) n)
  rw [l1, l2, Nat.sub_add_cancel n1, Nat.sub_add_cancel q1, ← hq] at ln
  apply List.ext_getElem?
  intro j
  by_cases hj : j < ws.length
  · rw [nestL_get _ _ _ (by omega), l1, Nat.sub_add_cancel n1]
    have hdm := Nat.div_add_mod (j + 1) n
    by_cases c : (j + 1) % n = 0
    · rw [if_pos c]
      rw [c, Nat.add_zero] at hdm
      have k1 : 1 ≤ (j + 1) / n := by
        rcases Nat.eq_zero_or_pos ((j + 1) / n) with z | z
        · rw [z, Nat.mul_zero] at hdm; omega
        · exact z
      have k2 : (j + 1) / n < q := by
        rw [Nat.div_lt_iff_lt_mul (by omega), Nat.mul_comm, ← hq]
        omega
      have := high_wt n1 q1 hq k1 k2
      rw [hdm] at this
      exact this
    · rw [if_neg c]
      have ml := Nat.mod_lt (j + 1) (show n > 0 by omega)
      have h1 := low_wt (ws := ws) (n := n) (j := (j + 1) % n) (by omega) ml
      have h2 := h.2.2 (j + 1) ((j + 1) % n) (by omega) (by omega) (by omega) (by
        have := Nat.mod_le (j + 1) n
        omega) (by rw [Nat.mod_mod]) c
      exact h1.trans h2.symm
  · rw [List.getElem?_eq_none (by omega), List.getElem?_eq_none (by omega)]
theorem blk_mem {ws : List Int} {n c : Nat} {x : Int} (h : x ∈ blk ws n c) : x ∈ ws := List.mem_of_mem_drop (List.mem_of_mem_take h)
theorem pks_mem {ws : List Int} {lo c : Nat} {x : Int} (h : x ∈ pks ws lo c) : x ∈ ws := by
  unfold pks at h
  obtain ⟨i, _, hi⟩ := List.mem_filterMap.mp h
  exact List.mem_of_getElem? hi
end Rn

set_option Elab.async false
set_option linter.all false
set_option maxRecDepth 100000
set_option maxHeartbeats 4000000
namespace Rn
open PySem PySem.Spec PyProof.Rows L2
/-! # normal forms: one for each policy -/
def Lay.sz (L : Lay) : Nat := L.waits.length + 1
theorem per_low0 {ws : List Int} {n : Nat} (h : PerC ws n) : (blk ws n 0).length + 1 = n := by
  have := low_len h
  have := h.1
  omega
theorem nestL_inj {xs xs' : List Int} : ∀ {ys ys' : List Int}, xs.length = xs'.length → nestL xs ys = nestL xs' ys' → xs = xs' ∧ ys = ys' := by
  intro ys ys' hl h
  have key : ∀ (zs zs' : List Int), (zs.flatMap fun y => y :: xs) = (zs'.flatMap fun y => y :: xs) → zs = zs' := by
    intro zs
    induction zs with
    | nil => intro zs' h; cases zs' with
      | nil => rfl
      | cons z zs' => simp at h
    | cons z zs ih => intro zs' h; cases zs' with
      | nil => simp at h
      | cons z' zs' =>
        rw [List.flatMap_cons, List.flatMap_cons, List.cons_append, List.cons_append] at h
        injection h with h1 h2
        rw [h1, ih zs' (List.append_cancel_left h2)]
  unfold nestL at h
  obtain ⟨e1, e2⟩ := List.append_inj h hl
  subst e1
  exact ⟨rfl, key _ _ e2⟩
/-- a list of equal waits -/
def Flat1 (ns : List Int) : Prop := ∃ w, ns = List.replicate ns.length w
theorem flat1_of {ns : List Int} {w : Int} (h : ∀ x ∈ ns, x = w) : ns = List.replicate ns.length w := List.eq_replicate_iff.mpr ⟨rfl, h⟩
/-- a layer of a normal form -/
def Lay.nf : Lay → Prop
  | .con w n => 0 ≤ w ∧ 2 ≤ n
  | .pol ns => Uns ns ∧ ¬ Flat1 ns ∧ ∀ x ∈ ns, 0 ≤ x
theorem Lay.nf.ok {L : Lay} (h : L.nf) : L.ok = true := by
  cases L with
  | con w n =>
    obtain ⟨h1, h2⟩ := h
    rw [Lay.ok_con, decide_eq_true h1, decide_eq_true (show 1 ≤ n by omega)]
    rfl
  | pol ns =>
    rw [Lay.ok_pol, List.all_eq_true]
    exact fun x hx => decide_eq_true (h.2.2 x hx)
theorem Lay.nf.sz {L : Lay} (h : L.nf) : 2 ≤ L.sz := by
  cases L with
  | con w n =>
    show 2 ≤ (List.replicate (n - 1).toNat w).length + 1
    rw [List.length_replicate]
    have := h.2
    omega
  | pol ns =>
    show 2 ≤ ns.length + 1
    have := h.1.1
    omega
/-- no neighbouring constant layers with one wait -/
def Adj (ls : List Lay) : Prop := ∀ (i : Nat) (w n w' m : Int), ls[i]? = some (.con w n) → ls[i + 1]? = some (.con w' m) → w ≠ w'
def NF (ls : List Lay) : Prop := (∀ L ∈ ls, L.nf) ∧ Adj ls
theorem NF.tail {L : Lay} {ls : List Lay} (h : NF (L :: ls)) : NF ls := ⟨fun M hM => h.1 M (List.mem_cons_of_mem _ hM), fun i w n w' m a b => h.2 (i + 1) w n w' m a b⟩
theorem NF.oks {ls : List Lay} (h : NF ls) : ∀ L ∈ ls, L.ok = true := fun L hL => (h.1 L hL).ok
theorem head_per {L : Lay} {ls : List Lay} (h : ∀ M ∈ L :: ls, M.ok = true) : PerC (flatL (L :: ls)) L.sz := by
  rw [flatL_cons h]
  exact per_c.mp (per_nest _ _)
theorem head_split {L : Lay} {ls : List Lay} (h : ∀ M ∈ L :: ls, M.ok = true) : blk (flatL (L :: ls)) L.sz 0 = L.waits ∧ pks (flatL (L :: ls)) (L.sz - 1) L.sz = flatL ls := by
  have hp := head_per h
  have e := nest_split hp
  have l0 := per_low0 hp
  have e2 := flatL_cons h
  refine nestL_inj ?_ (e.trans e2)
  unfold Lay.sz at l0 ⊢
  omega
/-- an unsplittable inner part that is not constant stands in every inner part -/
theorem uns_in {ws : List Int} {a q : Nat} (ha : PerC ws a) (hu : Uns (blk ws a 0)) (hn : ¬ Flat1 (blk ws a 0)) (hq : PerC ws q) (q2 : 2 ≤ q) : a ∣ q := by
  have hg := per_gcd ha hq
  have ga := Nat.gcd_dvd_left a q
  have gq := Nat.gcd_dvd_right a q
  have la := per_low0 ha
  have a0 := hu.1
  by_cases c1 : Nat.gcd a q = a
  · exact c1 ▸ gq
  · exfalso
    have g0 : 1 ≤ Nat.gcd a q := Nat.gcd_pos_of_pos_left _ (by omega)
    have gle := Nat.le_of_dvd (by omega) ga
    by_cases c2 : Nat.gcd a q = 1
    · have hb := per_between (g := 1) (p := a) (q := q) (by rw [Nat.one_mul]; exact ha) (by rw [Nat.one_mul]; exact hq) c2 (by omega) (by omega)
      apply hn
      refine ⟨(blk ws a 0).getD 0 0, flat1_of fun x hx => ?_⟩
      obtain ⟨i, hi, e⟩ := List.getElem_of_mem hx
      have w1 := low_wt (ws := ws) (n := a) (j := i + 1) (by omega) (by omega)
      have w2 := low_wt (ws := ws) (n := a) (j := 1) (by omega) (by omega)
      have h1 := hb (i + 1) (by omega) (by
        have : a * 2 ≤ a * q := Nat.mul_le_mul_left _ q2
        omega)
      rw [Nat.one_mul] at h1
      have h2 : wt (blk ws a 0) (i + 1) = wt (blk ws a 0) 1 := by rw [w1, w2, h1]
      unfold wt at h2
      rw [Nat.add_sub_cancel, Nat.sub_self, List.getElem?_eq_getElem hi] at h2
      rw [List.getD_eq_getElem?_getD, ← h2, ← e]
      rfl
    · have h1 : PerC (blk ws a 0) (Nat.gcd a q) := (per_low ha).mpr ⟨hg, ga⟩
      have h2 := hu.2 (Nat.gcd a q) (by omega) (by omega)
      rw [per_iff.mpr (per_c.mpr h1)] at h2
      cases h2
theorem blk_prefix {ws : List Int} {a q : Nat} (h : a ≤ q) (ha : 1 ≤ a) : blk ws a 0 = (blk ws q 0).take (a - 1) := by
  unfold blk
  rw [Nat.zero_mul, Nat.zero_mul, List.take_take]
  congr 1
  omega
theorem flat1_take {xs : List Int} {k : Nat} (h : Flat1 xs) : Flat1 (xs.take k) := by
  obtain ⟨w, hw⟩ := h
  refine ⟨w, flat1_of fun x hx => ?_⟩
  have := List.mem_of_mem_take hx
  rw [hw] at this
  exact (List.mem_replicate.mp this).2
/-- where an inner part is constant, the first layer is a constant one with its wait -/
theorem head_con {ls : List Lay} (h : NF ls) {q : Nat} {w : Int} (hq : PerC (flatL ls) q) (q2 : 2 ≤ q) (hw : ∀ x ∈ blk (flatL ls) q 0, x = w) : ∃ n r, ls = .con w n :: r := by
  have lq := per_low0 hq
  cases ls with
  | nil =>
    have := Nat.le_of_dvd (by omega) hq.2.1
    have e : (flatL []).length = 0 := rfl
    omega
  | cons L r =>
    obtain ⟨e1, e2⟩ := head_split h.oks
    have hp := head_per h.oks
    have hL := h.1 L List.mem_cons_self
    cases L with
    | pol ns =>
      exfalso
      have hd := uns_in hp (by rw [e1]; exact hL.1) (by rw [e1]; exact hL.2.1) hq q2
      have hle := Nat.le_of_dvd (by omega) hd
      have e3 := blk_prefix (ws := flatL (.pol ns :: r)) hle hp.1
      apply hL.2.1
      have e4 : ns = (blk (flatL (.pol ns :: r)) q 0).take ((Lay.pol ns).sz - 1) := by rw [← e3, e1]; rfl
      rw [e4]
      exact flat1_take ⟨w, flat1_of hw⟩
    | con v n =>
      have hs := hL.sz
      have l1 := per_low0 hp
      have p1 := low_wt (ws := flatL (.con v n :: r)) (n := (Lay.con v n).sz) (j := 1) (Nat.le_refl _) (by omega)
      have p2 := low_wt (ws := flatL (.con v n :: r)) (n := q) (j := 1) (Nat.le_refl _) (by omega)
      have p3 := p1.trans p2.symm
      unfold wt at p3
      rw [e1, Nat.sub_self] at p3
      have hq0 : 0 < (blk (flatL (.con v n :: r)) q 0).length := by omega
      rw [List.getElem?_eq_getElem hq0] at p3
      have x1 := hw _ (List.getElem_mem hq0)
      rw [x1] at p3
      have x2 : (List.replicate (n - 1).toNat v)[0]? = some w := p3
      have x3 := List.mem_of_getElem? x2
      rw [(List.mem_replicate.mp x3).2]
      exact ⟨n, r, rfl⟩
/-- two first layers, both constant: one divides the other -/
theorem con_con {w n v m : Int} {ls ms : List Lay} (hl : NF (.con w n :: ls)) (hm : NF (.con v m :: ms)) (e : flatL (.con w n :: ls) = flatL (.con v m :: ms)) : (Lay.con v m).sz ∣ (Lay.con w n).sz := by
  have pa := head_per hl.oks
  have pb := head_per hm.oks
  rw [← e] at pb
  obtain ⟨a1, a2⟩ := head_split hl.oks
  obtain ⟨b1, b2⟩ := head_split hm.oks
  rw [← e] at b1 b2
  have sa := (hl.1 _ List.mem_cons_self).sz
  have sb := (hm.1 _ List.mem_cons_self).sz
  generalize hws : flatL (.con w n :: ls) = ws at *
  generalize ha : (Lay.con w n).sz = a at *
  generalize hb : (Lay.con v m).sz = b at *
  have la := per_low0 pa
  have lb := per_low0 pb
  have wa : ∀ j, 1 ≤ j → j < a → wt ws j = some w := fun j j1 j2 => by
    rw [← low_wt j1 j2]
    unfold wt
    rw [a1]
    have : j - 1 < (Lay.con w n).waits.length := by rw [a1] at la; omega
    rw [List.getElem?_eq_getElem this]
    have := List.getElem_mem this
    exact congrArg some (List.mem_replicate.mp (show _ ∈ List.replicate (n - 1).toNat w from this)).2
  have wb : ∀ j, 1 ≤ j → j < b → wt ws j = some v := fun j j1 j2 => by
    rw [← low_wt j1 j2]
    unfold wt
    rw [b1]
    have : j - 1 < (Lay.con v m).waits.length := by rw [b1] at lb; omega
    rw [List.getElem?_eq_getElem this]
    have := List.getElem_mem this
    exact congrArg some (List.mem_replicate.mp (show _ ∈ List.replicate (m - 1).toNat v from this)).2
  have ewv : w = v := Option.some.inj ((wa 1 (Nat.le_refl _) (by omega)).symm.trans (wb 1 (Nat.le_refl _) (by omega)))
  subst ewv
  have pl := per_lcm pa pb
  have dl : a ∣ Nat.lcm a b := Nat.dvd_lcm_left a b
  obtain ⟨c, hc⟩ := dl
  by_cases c1 : c = 1
  · rw [c1, Nat.mul_one] at hc
    rw [← hc]
    exact Nat.dvd_lcm_right a b
  · exfalso
    have c0 : c ≠ 0 := by
      intro z
      rw [z, Nat.mul_zero] at hc
      have := Nat.lcm_pos (show 0 < a by omega) (show 0 < b by omega)
      omega
    have ph : PerC (pks ws (a - 1) a) c := (per_high pa (by omega)).mpr (by rw [← hc]; exact pl)
    have lle := Nat.le_of_dvd (by omega) pl.2.1
    obtain ⟨q, hq⟩ := pa.2.1
    have q1 : 1 ≤ q := by
      rcases Nat.eq_zero_or_pos q with z | z
      · rw [z, Nat.mul_zero] at hq; omega
      · exact z
    have lhi := high_len pa.1 q1 hq
    have lc := per_low0 ph
    have cq := Nat.le_of_dvd (by omega) ph.2.1
    rw [lhi] at cq
    rw [a2] at ph lc
    obtain ⟨k, r, hr⟩ := head_con hl.tail (w := w) ph (by omega) fun x hx => by
      obtain ⟨i, hi, ex⟩ := List.getElem_of_mem hx
      have h1 := low_wt (ws := flatL ls) (n := c) (j := i + 1) (by omega) (by omega)
      have h2 := high_wt (ws := ws) pa.1 q1 hq (j := i + 1) (by omega) (by omega)
      rw [a2] at h2
      have h3 := h1.trans h2
      unfold wt at h3
      rw [Nat.add_sub_cancel, List.getElem?_eq_getElem hi, ex] at h3
      have hlt : a * (i + 1) < Nat.lcm a b := by
        rw [hc]
        exact Nat.mul_lt_mul_of_pos_left (by omega) (by omega)
      have nd : (a * (i + 1)) % b ≠ 0 := fun z => by
        have d1 : b ∣ a * (i + 1) := Nat.dvd_of_mod_eq_zero z
        have d2 := Nat.lcm_dvd (Nat.dvd_mul_right a (i + 1)) d1
        have pos : 0 < a * (i + 1) := Nat.mul_pos (by omega) (by omega)
        have := Nat.le_of_dvd pos d2
        omega
      have ml := Nat.mod_lt (a * (i + 1)) (show b > 0 by omega)
      have pos : 1 ≤ a * (i + 1) := Nat.mul_pos (by omega) (by omega)
      have mle := Nat.mod_le (a * (i + 1)) b
      have h4 := pb.2.2 (a * (i + 1)) ((a * (i + 1)) % b) pos (by omega) (by omega) (by omega) (by rw [Nat.mod_mod]) nd
      have h5 := wb ((a * (i + 1)) % b) (by omega) ml
      unfold wt at h4 h5
      rw [← h3, h5] at h4
      exact Option.some.inj h4
    rw [hr] at hl
    exact hl.2 0 w n w k rfl rfl rfl
theorem nf_unique : ∀ {ls ms : List Lay}, NF ls → NF ms → flatL ls = flatL ms → ls = ms := by
  have short : ∀ {L : Lay} {r : List Lay}, NF (L :: r) → 0 < (flatL (L :: r)).length := fun {L r} h => by
    have hp := head_per h.oks
    have hs := (h.1 L List.mem_cons_self).sz
    have := Nat.le_of_dvd (by omega) hp.2.1
    omega
  intro ls
  induction ls with
  | nil =>
    intro ms _ hm e
    cases ms with
    | nil => rfl
    | cons M r =>
      have := short hm
      rw [← e] at this
      exact absurd this (Nat.lt_irrefl 0)
  | cons L ls ih =>
    intro ms hl hm e
    cases ms with
    | nil =>
      have := short hl
      rw [e] at this
      exact absurd this (Nat.lt_irrefl 0)
    | cons M ms =>
      have pa := head_per hl.oks
      have pb := head_per hm.oks
      obtain ⟨a1, a2⟩ := head_split hl.oks
      obtain ⟨b1, b2⟩ := head_split hm.oks
      have nL := hl.1 L List.mem_cons_self
      have nM := hm.1 M List.mem_cons_self
      have sa := nL.sz
      have sb := nM.sz
      have fin : L.sz = M.sz → L = M → L :: ls = M :: ms := fun e1 e2 => by
        subst e2
        rw [flatL_cons hl.oks, flatL_cons hm.oks] at e
        rw [ih hl.tail hm.tail (nestL_inj rfl e).2]
      have same : L.sz = M.sz → L.waits = M.waits := fun e1 => by rw [← a1, ← b1, e, e1]
      cases L with
      | pol ns =>
        have ua := fun {q : Nat} (hq : PerC (flatL (.pol ns :: ls)) q) (q2 : 2 ≤ q) => uns_in pa (by rw [a1]; exact nL.1) (by rw [a1]; exact nL.2.1) hq q2
        cases M with
        | pol ms' =>
          have d1 := ua (by rw [e]; exact pb) sb
          have d2 := uns_in pb (by rw [b1]; exact nM.1) (by rw [b1]; exact nM.2.1) (by rw [← e]; exact pa) sa
          have es := Nat.dvd_antisymm d1 d2
          have := same es
          exact fin es (congrArg Lay.pol this)
        | con v m =>
          exfalso
          have d1 := ua (by rw [e]; exact pb) sb
          have hle := Nat.le_of_dvd (by omega) d1
          have e3 := blk_prefix (ws := flatL (.pol ns :: ls)) hle pa.1
          rw [a1, e, b1] at e3
          apply nL.2.1
          have e4 : ns = (Lay.con v m).waits.take ((Lay.pol ns).sz - 1) := e3
          rw [e4]
          exact flat1_take ⟨v, by
            show List.replicate (m - 1).toNat v = List.replicate (List.replicate (m - 1).toNat v).length v
            rw [List.length_replicate]⟩
      | con w n =>
        cases M with
        | pol ms' =>
          exfalso
          have d1 := uns_in pb (by rw [b1]; exact nM.1) (by rw [b1]; exact nM.2.1) (by rw [← e]; exact pa) sa
          have hle := Nat.le_of_dvd (by omega) d1
          have e3 := blk_prefix (ws := flatL (.pol ms' :: ms)) hle pb.1
          rw [b1, ← e, a1] at e3
          apply nM.2.1
          have e4 : ms' = (Lay.con w n).waits.take ((Lay.pol ms').sz - 1) := e3
          rw [e4]
          exact flat1_take ⟨w, by
            show List.replicate (n - 1).toNat w = List.replicate (List.replicate (n - 1).toNat w).length w
            rw [List.length_replicate]⟩
        | con v m =>
          have d1 := con_con hl hm e
          have d2 := con_con hm hl e.symm
          have es := Nat.dvd_antisymm d2 d1
          have ew := same es
          have s1 : (Lay.con w n).sz = (n - 1).toNat + 1 := by
            show (List.replicate (n - 1).toNat w).length + 1 = _
            rw [List.length_replicate]
          have s2 : (Lay.con v m).sz = (m - 1).toNat + 1 := by
            show (List.replicate (m - 1).toNat v).length + 1 = _
            rw [List.length_replicate]
          have n2 := nL.2
          have m2 := nM.2
          have enm : n = m := by omega
          subst enm
          obtain ⟨k, hk⟩ : ∃ k, (n - 1).toNat = k + 1 := ⟨(n - 1).toNat - 1, by omega⟩
          have ew' : List.replicate (n - 1).toNat w = List.replicate (n - 1).toNat v := ew
          rw [hk, List.replicate_succ, List.replicate_succ] at ew'
          injection ew' with ew1 ew2
          subst ew1
          exact fin rfl rfl
end Rn
namespace Rn
open PySem PySem.Spec PyProof.Rows L2
/-! ## the parts of a list -/
theorem sm_per {ws : List Int} {n : Nat} (h : Sm ws n) (h0 : 0 < ws.length) : 2 ≤ n ∧ PerC ws n := by
  rcases h.1 with e | ⟨h1, h2, h3⟩
  · exact ⟨by omega, by rw [e]; exact per_c.mp (per_all ws)⟩
  · exact ⟨h1, per_c.mp (per_iff.mp h3)⟩
theorem sm_uns_low {ws : List Int} {n : Nat} (h : Sm ws n) (h0 : 0 < ws.length) : Uns (blk ws n 0) := by
  obtain ⟨n2, hp⟩ := sm_per h h0
  have hl := per_low0 hp
  refine ⟨by omega, fun j j1 j2 => inn_false fun z => ?_⟩
  have h1 := ((per_low hp).mp (per_c.mp z)).1
  have := h.2 j j1 (by omega)
  rw [per_iff.mpr (per_c.mpr h1)] at this
  cases this
inductive Parts : List Int → List Lay → Prop
  | nil : Parts [] []
  | con {ws : List Int} {n : Nat} {w : Int} {ls : List Lay} (h0 : 0 < ws.length) (hm : Sm ws n) (hc : blk ws n 0 = List.replicate (n - 1) w) (t : Parts (pks ws (n - 1) n) ls) : Parts ws (.con w (n : Int) :: ls)
  | pol {ws : List Int} {n : Nat} {ls : List Lay} (h0 : 0 < ws.length) (hm : Sm ws n) (hc : ¬ Flat1 (blk ws n 0)) (t : Parts (pks ws (n - 1) n) ls) : Parts ws (.pol (blk ws n 0) :: ls)
theorem parts_ok {ws : List Int} {ls : List Lay} (h : Parts ws ls) (hn : ∀ x ∈ ws, 0 ≤ x) : (∀ L ∈ ls, L.nf) ∧ flatL ls = ws := by
  induction h with
  | nil => exact ⟨(fun _ z => nomatch z), rfl⟩
  | con h0 hm hc t ih =>
    rename_i ws n w ls
    obtain ⟨i1, i2⟩ := ih fun x hx => hn x (pks_mem hx)
    obtain ⟨n2, hp⟩ := sm_per hm h0
    have hw : w ∈ blk ws n 0 := by rw [hc]; exact List.mem_replicate.mpr ⟨by omega, rfl⟩
    have g : (Lay.con w (n : Int)).nf := ⟨hn w (blk_mem hw), by omega⟩
    have all : ∀ L ∈ Lay.con w (n : Int) :: ls, L.nf := fun L hL => by
      rcases List.mem_cons.mp hL with e | e
      · rw [e]; exact g
      · exact i1 L e
    refine ⟨all, ?_⟩
    rw [flatL_cons fun L hL => (all L hL).ok, i2]
    have e : (Lay.con w (n : Int)).waits = blk ws n 0 := by
      rw [hc]
      show List.replicate ((n : Int) - 1).toNat w = _
      congr 1
      omega
    rw [e, nest_split hp]
  | pol h0 hm hc t ih =>
    rename_i ws n ls
    obtain ⟨i1, i2⟩ := ih fun x hx => hn x (pks_mem hx)
    obtain ⟨n2, hp⟩ := sm_per hm h0
    have g : (Lay.pol (blk ws n 0)).nf := ⟨sm_uns_low hm h0, hc, fun x hx => hn x (blk_mem hx)⟩
    have all : ∀ L ∈ Lay.pol (blk ws n 0) :: ls, L.nf := fun L hL => by
      rcases List.mem_cons.mp hL with e | e
      · rw [e]; exact g
      · exact i1 L e
    refine ⟨all, ?_⟩
    rw [flatL_cons fun L hL => (all L hL).ok, i2]
    exact nest_split hp
/-! ## merging -/
def pushL (acc : List Lay) (L : Lay) : List Lay :=
  match acc.getLast?, L with
  | some (.con w n), .con v m => if w = v then acc.dropLast ++ [.con w (n * m)] else acc ++ [L]
  | _, _ => acc ++ [L]
def mergeL (ls : List Lay) : List Lay := ls.foldl pushL []
theorem flatF {ls : List Lay} (h : ∀ L ∈ ls, L.ok = true) (L : Lay) (hL : L.ok = true) : flatL (ls ++ [L]) = nestL (flatL ls) L.waits := by
  have h2 : ∀ M ∈ ls ++ [L], M.ok = true := fun M hM => by
    rcases List.mem_append.mp hM with z | z
    · exact h M z
    · rw [List.mem_singleton.mp z]; exact hL
  rw [flatL_fold h2, flatL_fold h, List.foldl_append]
  rfl
theorem nest_rep (a b : Nat) (w : Int) : nestL (List.replicate a w) (List.replicate b w) = List.replicate ((a + 1) * (b + 1) - 1) w := by
  refine List.eq_replicate_iff.mpr ⟨?_, fun x hx => ?_⟩
  · have := nestL_len (List.replicate a w) (List.replicate b w)
    rw [List.length_replicate, List.length_replicate] at this
    omega
  · rcases nestL_mem hx with z | z
    · exact (List.mem_replicate.mp z).2
    · exact (List.mem_replicate.mp z).2
theorem push_cases (acc : List Lay) (L : Lay) : (∃ A w n m, acc = A ++ [.con w n] ∧ L = .con w m ∧ pushL acc L = A ++ [.con w (n * m)]) ∨ (pushL acc L = acc ++ [L] ∧ ∀ A w n v m, acc = A ++ [.con w n] → L = .con v m → w ≠ v) := by
  unfold pushL
  rcases List.eq_nil_or_concat acc with e | ⟨A, B, e⟩
  · subst e
    exact .inr ⟨rfl, fun A w n v m z => absurd z (by simp)⟩
  · rw [List.concat_eq_append] at e
    subst e
    rw [List.getLast?_append, List.getLast?_singleton, Option.some_or]
    cases B with
    | pol ns => exact .inr ⟨rfl, fun A' w n v m z => by have := (List.append_inj' z rfl).2; cases this⟩
    | con w n =>
      cases L with
      | pol ms => exact .inr ⟨rfl, fun A' w n v m z z2 => by cases z2⟩
      | con v m =>
        by_cases c : w = v
        · subst c
          exact .inl ⟨A, w, n, m, rfl, rfl, by rw [List.dropLast_concat]; exact if_pos rfl⟩
        · refine .inr ⟨if_neg c, fun A' w' n' v' m' z z2 => ?_⟩
          have := (List.append_inj' z rfl).2
          cases this
          cases z2
          exact c
theorem push_ok {acc : List Lay} {L : Lay} (h : NF acc) (hL : L.nf) : NF (pushL acc L) ∧ flatL (pushL acc L) = nestL (flatL acc) L.waits := by
  rcases push_cases acc L with ⟨A, w, n, m, rfl, rfl, e⟩ | ⟨e, hne⟩
  · rw [e]
    have hc := h.1 (.con w n) (List.mem_append_right _ List.mem_cons_self)
    have n2 : 2 ≤ n := hc.2
    have m2 : 2 ≤ m := hL.2
    have nm : 2 * 2 ≤ n * m := Int.mul_le_mul n2 m2 (by decide) (by omega)
    have g : (Lay.con w (n * m)).nf := ⟨hc.1, by omega⟩
    have hA : ∀ M ∈ A, M.nf := fun M hM => h.1 M (List.mem_append_left _ hM)
    refine ⟨⟨fun M hM => ?_, fun i v k v' k' a b => ?_⟩, ?_⟩
    · rcases List.mem_append.mp hM with z | z
      · exact hA M z
      · rw [List.mem_singleton.mp z]; exact g
    · have hi : i + 1 < (A ++ [Lay.con w (n * m)]).length := (List.getElem?_eq_some_iff.mp b).1
      rw [List.length_append, List.length_singleton] at hi
      rw [List.getElem?_append_left (by omega)] at a
      by_cases hj : i + 1 < A.length
      · rw [List.getElem?_append_left hj] at b
        exact h.2 i v k v' k' (by rw [List.getElem?_append_left (by omega)]; exact a) (by rw [List.getElem?_append_left hj]; exact b)
      · have ej : i + 1 = A.length := by omega
        rw [List.getElem?_append_right (by omega), ej, Nat.sub_self] at b
        cases b
        exact h.2 i v k w n (by rw [List.getElem?_append_left (by omega)]; exact a) (by rw [List.getElem?_append_right (by omega), ej, Nat.sub_self]; rfl)
    · rw [flatF (fun M hM => (hA M hM).ok) _ g.ok, flatF (fun M hM => (hA M hM).ok) _ hc.ok, nestL_assoc]
      congr 1
      show List.replicate (n * m - 1).toNat w = nestL (List.replicate (n - 1).toNat w) (List.replicate (m - 1).toNat w)
      rw [nest_rep, show (n - 1).toNat + 1 = n.toNat by omega, show (m - 1).toNat + 1 = m.toNat by omega, ← Int.toNat_mul (by omega) (by omega)]
      congr 1
      omega
  · rw [e]
    refine ⟨⟨fun M hM => ?_, fun i v k v' k' a b => ?_⟩, flatF h.oks L hL.ok⟩
    · rcases List.mem_append.mp hM with z | z
      · exact h.1 M z
      · rw [List.mem_singleton.mp z]; exact hL
    · have hi : i + 1 < (acc ++ [L]).length := (List.getElem?_eq_some_iff.mp b).1
      rw [List.length_append, List.length_singleton] at hi
      rw [List.getElem?_append_left (by omega)] at a
      by_cases hj : i + 1 < acc.length
      · rw [List.getElem?_append_left hj] at b
        exact h.2 i v k v' k' a b
      · have ej : i + 1 = acc.length := by omega
        rw [List.getElem?_append_right (by omega), ej, Nat.sub_self] at b
        have b : some L = some (Lay.con v' k') := b
        have hA : acc = acc.dropLast ++ [Lay.con v k] := by
          have hne2 : acc ≠ [] := fun z => by rw [z] at ej; simp at ej
          have h1 := (List.dropLast_concat_getLast hne2).symm
          have h2 : acc.getLast hne2 = Lay.con v k := by
            have h3 : acc[acc.length - 1]? = some (acc.getLast hne2) := by rw [← List.getLast?_eq_getElem?, List.getLast?_eq_some_getLast hne2]
            rw [show acc.length - 1 = i by omega, a] at h3
            exact (Option.some.inj h3).symm
          rw [h2] at h1
          exact h1
        exact hne _ v k v' k' hA (Option.some.inj b)
theorem merge_from : ∀ (ls : List Lay) {acc : List Lay}, NF acc → (∀ L ∈ ls, L.nf) → NF (ls.foldl pushL acc) ∧ flatL (ls.foldl pushL acc) = ls.foldl (fun a L => nestL a L.waits) (flatL acc)
  | [], acc, h, _ => ⟨h, rfl⟩
  | L :: ls, acc, h, hl => by
    obtain ⟨p1, p2⟩ := push_ok h (hl L List.mem_cons_self)
    obtain ⟨q1, q2⟩ := merge_from ls p1 fun M hM => hl M (List.mem_cons_of_mem _ hM)
    exact ⟨q1, by rw [List.foldl_cons, q2, p2, List.foldl_cons]⟩
theorem merge_ok {ls : List Lay} (h : ∀ L ∈ ls, L.nf) : NF (mergeL ls) ∧ flatL (mergeL ls) = flatL ls := by
  have h0 : NF ([] : List Lay) := ⟨(fun _ z => nomatch z), fun i w n w' m a => by cases a⟩
  obtain ⟨p1, p2⟩ := merge_from ls h0 h
  refine ⟨p1, ?_⟩
  rw [flatL_fold fun L hL => (h L hL).ok]
  exact p2
/-! ## rules of the written part; comprehensions with two for -/
theorem pi_listK {X : Cx} {K : PySem.W.Frag} (h : X.K = K) {tg l : Expr} {tl : TE} (hl : PE X l tl) : PI X tg l (iList K tl) := by subst h; exact pi_list hl
/-- the inner for, over a list that stands still -/
theorem in_list {K : PySem.W.Frag} {b : Addr} {ys : List V} {g1 : TG} {tt1 : TT} {te : TE} {vs1 : List Nat} {σ2 : L2.St} {H4 : Hp} {D : Addr} {Nx : Hp → Prop} (Pw : Nat → Hp → Prop) (h0 : Pw 0 H4) (hl : ∀ j H, j ≤ ys.length → Pw j H → SqL K H b ys)
    (hs : ∀ j y H, ys[j]? = some y → Pw j H → g1 y (wipe σ2 vs1) H fun σ3 H5 => wipe σ3 vs1 = wipe σ2 vs1 ∧ tt1 σ3 H5 fun c H6 => if c = true then te σ3 H6 fun v H7 => ∃ acc, H7 D = some (.lst acc) ∧ acc.length < sizeLine ∧ Pw (j + 1) (upd H7 D (.lst (acc ++ [v]))) else Pw (j + 1) H6)
    (hd : ∀ H, Pw ys.length H → Nx H) :
    ∃ W1 : Nat → Nat → Hp → Prop, (∃ m, W1 0 m H4) ∧ ∀ j k H, W1 j k H →
      ((Itl K b).stop j H ∧ Nx H) ∨ ((Itl K b).go j H ∧ ∃ Nx1 : Hp → Prop, (∀ H', Nx1 H' → ∃ k', k' < k ∧ W1 (j + 1) k' H') ∧ ∀ x H', (Itl K b).yld j H x H' → g1 x (wipe σ2 vs1) H' fun σ3 H5 => wipe σ3 vs1 = wipe σ2 vs1 ∧ tt1 σ3 H5 fun c H6 =>
        if c = true then te σ3 H6 fun y H7 => ∃ acc, H7 D = some (.lst acc) ∧ acc.length < sizeLine ∧ Nx1 (upd H7 D (.lst (acc ++ [y]))) else Nx1 H6) := by
  refine ⟨fun i m H => m = ys.length - i ∧ i ≤ ys.length ∧ Pw i H, ⟨ys.length, by simp, Nat.zero_le _, h0⟩, ?_⟩
  rintro i m H ⟨rfl, hi, p⟩
  have q := hl i H hi p
  by_cases hlt : i < ys.length
  · refine .inr ⟨⟨ys, ys[i], q, by simp [hlt]⟩, Pw (i + 1), fun H' p' => ⟨ys.length - (i + 1), by omega, rfl, hlt, p'⟩, fun x H' y => ?_⟩
    obtain ⟨e, y⟩ := y
    subst e
    exact hs i x _ (y ys q) p
  · have e : i = ys.length := by omega
    subst e
    exact .inl ⟨⟨ys, q, Nat.le_refl _⟩, hd H p⟩
/-- the outer for -/
theorem out_list {K : PySem.W.Frag} {a : Addr} {xs : List V} {vs : List Nat} {σ : L2.St} {H1 : Hp} {D : Addr} {Qd : Hp → Prop} {B : V → Hp → (Hp → Prop) → Prop} (Pv : Nat → Hp → Prop) (h0 : Pv 0 (upd H1 D (.lst []))) (hl : ∀ i H, i ≤ xs.length → Pv i H → SqL K H a xs)
    (hs : ∀ i x H, xs[i]? = some x → Pv i H → B x H (Pv (i + 1))) (hd : ∀ H, Pv xs.length H → Qd H) :
    ∃ W : Nat → Nat → Hp → Prop, (∃ m, W 0 m (upd H1 D (.lst []))) ∧ ∀ i m H, W i m H →
      ((Itl K a).stop i H ∧ Qd H) ∨ ((Itl K a).go i H ∧ ∃ Nx : Hp → Prop, (∀ H', Nx H' → ∃ m', m' < m ∧ W (i + 1) m' H') ∧ ∀ x H', (Itl K a).yld i H x H' → B x H' Nx) := by
  refine ⟨fun i m H => m = xs.length - i ∧ i ≤ xs.length ∧ Pv i H, ⟨xs.length, by simp, Nat.zero_le _, h0⟩, ?_⟩
  rintro i m H ⟨rfl, hi, p⟩
  have q := hl i H hi p
  by_cases hlt : i < xs.length
  · refine .inr ⟨⟨xs, xs[i], q, by simp [hlt]⟩, Pv (i + 1), fun H' p' => ⟨xs.length - (i + 1), by omega, rfl, hlt, p'⟩, fun x H' y => ?_⟩
    obtain ⟨e, y⟩ := y
    subst e
    exact hs i x _ (y xs q) p
  · have e : i = xs.length := by omega
    subst e
    exact .inl ⟨⟨xs, q, Nat.le_refl _⟩, hd H p⟩
end Rn
namespace Rn
open PySem PySem.Spec PyProof.Rows L2
abbrev N0 : Hp := fun _ => none
theorem flat_app : ∀ {As Bs : List Lay}, (∀ L ∈ As, L.ok = true) → (∀ L ∈ Bs, L.ok = true) → flatL (As ++ Bs) = nestL (flatL As) (flatL Bs)
  | [], Bs, _, _ => by
    show flatL Bs = nestL [] (flatL Bs)
    rw [nil_nestL]
  | A :: As, Bs, h, h2 => by
    have h3 : ∀ L ∈ A :: (As ++ Bs), L.ok = true := fun L hL => by
      rcases List.mem_cons.mp hL with e | e
      · exact h L (e ▸ List.mem_cons_self)
      · rcases List.mem_append.mp e with z | z
        · exact h L (List.mem_cons_of_mem _ z)
        · exact h2 L z
    show flatL (A :: (As ++ Bs)) = _
    rw [flatL_cons h3, flatL_cons h, flat_app (fun L hL => h L (List.mem_cons_of_mem _ hL)) h2, nestL_assoc]
def sameC : Lay → Lay → Bool
  | .con w _, .con v _ => decide (w = v)
  | _, _ => false
theorem NestV.swap {H0 G : Hp} {p t : Addr} {us : List V} {u : V} {A : List Lay} {B C : Lay} (h : NestV H0 G p (us ++ [u]) (A ++ [B])) (hx : LayAt G (.ref t) C) (ne : t ≠ p) (fr : H0 t = none) :
    NestV H0 (upd G p (.lst (us ++ [.ref t]))) p (us ++ [.ref t]) (A ++ [C]) := by
  obtain ⟨h1, h2, h3, h4⟩ := h
  have hl : us.length = A.length := by
    rw [List.length_append, List.length_append] at h2
    exact Nat.succ.inj h2
  refine ⟨upd_same, by rw [List.length_append, List.length_append, hl]; rfl, fun i v M a b => ?_, fun y hy => ?_⟩
  · by_cases hi : i < us.length
    · rw [List.getElem?_append_left hi] at a
      rw [List.getElem?_append_left (by omega)] at b
      exact (h3 i v M (by rw [List.getElem?_append_left hi]; exact a) (by rw [List.getElem?_append_left (by omega)]; exact b)).keep fun y e => (h4 y (List.mem_append_left _ (e ▸ List.mem_of_getElem? a))).1
    · rw [List.getElem?_append_right (by omega)] at a
      rw [List.getElem?_append_right (by omega), ← hl] at b
      generalize i - us.length = k at *
      cases k with
      | zero =>
        cases a
        cases b
        exact hx.keep fun y e => by cases e; exact ne
      | succ k => cases a
  · rcases List.mem_append.mp hy with z | z
    · exact h4 y (List.mem_append_left _ z)
    · have := List.mem_singleton.mp z
      cases this
      exact ⟨ne, fr⟩
theorem ixN_last {n : Nat} (h : 0 < n) : ixN n (-1) = some (n - 1) := by
  unfold ixN
  rw [if_neg (by decide)]
  first
    | (rw [if_pos (by omega)]; congr 1; omega)
    | (simp; omega)
theorem set_last {α : Type} (us : List α) (u x : α) : (us ++ [u]).set ((us ++ [u]).length - 1) x = us ++ [x] := by
  rw [List.length_append, List.length_singleton, Nat.add_sub_cancel, List.set_append_right _ _ (Nat.le_refl _), Nat.sub_self]
  rfl
end Rn

set_option Elab.async false
set_option linter.all false
set_option maxRecDepth 100000
set_option maxHeartbeats 4000000
namespace Rn
open PySem PySem.Spec PyProof.Rows L2
section
variable {X : Cx}
theorem op_isB : OpR X (compareOp .Is) (fun x y H Q => ∃ a b : Bool, x = .bl a ∧ y = .bl b ∧ Q (.bl (decide (a = b))) H) := by
  intro pins s σ H x y v u Q I rx ry h
  obtain ⟨a, b, rfl, rfl, q⟩ := h
  cases rx
  cases ry
  refine wpAny_is_plain rfl (fin_bl I q ?_)
  cases a <;> cases b <;> rfl
/-- o[lo:hi] = a list -/
def gSlc (to tl th : TE) : TG := fun v σ H Q => to σ H fun x H1 => tPart tl σ H1 fun l H2 => tPart th σ H2 fun u H3 => ∃ (a b : Addr) (xs ys : List V) (i j : Nat), x = .ref a ∧ v = .ref b ∧ l = some (i : Int) ∧ u = some (j : Int) ∧ H3 a = some (.lst xs) ∧ H3 b = some (.lst ys) ∧ a ≠ b ∧
  i ≤ j ∧ j ≤ xs.length ∧ xs.length + ys.length ≤ sizeLine ∧ Q σ (upd H3 a (.lst (xs.take i ++ ys ++ xs.drop j)))
theorem pg_slc {o lo hi : Expr} {to tl th : TE} {p2 pos : Pos} (ho : PE X o to) (hl : PE X lo tl) (hh : PE X hi th)
    (ha : ∀ v, assign (.Subscript o (.Slice (some lo) (some hi) none p2) pos) X.env v = (do
      let ov ← holding [v] (eval o X.env)
      let iv ← holding [v, ov] (eval (.Slice (some lo) (some hi) none p2) X.env)
      standAt pos
      holding [v, ov, iv] (setItem ov iv v)
      release [iv, v, ov] []) := by intro _; rfl) : PG X (.Subscript o (.Slice (some lo) (some hi) none p2) pos) (gSlc to tl th) := by
  refine ⟨fun pins s σ H v u Q I r h => ?_⟩
  rw [ha]
  refine wpAny_bind (wpAny_holding (thn (ho.run pins s σ H _ I h) fun ov s1 z1 => ?_))
  obtain ⟨x, H1, I1, r1, q1⟩ := z1
  refine wpAny_bind (wpAny_holding (wpAny_Slice (thn ((po_some hl).run pins s1 σ H1 _ I1 q1) fun vl s2 z2 => ?_)))
  obtain ⟨l, H2, I2, pl, q2⟩ := z2
  refine thn ((po_some hh).run pins s2 σ H2 _ I2 q2) fun vu s3 z3 => ?_
  obtain ⟨w, H3, I3, pu, q3⟩ := z3
  rw [evalPart_none]
  refine wpAny_pure ?_
  obtain ⟨a, b, xs, ys, i, j, rfl, rfl, rfl, rfl, hH, hB, hne, hij, hj, hz, q⟩ := q3
  have I4 : Inv X pins σ H3 { s3 with heap := s3.heap.push { cls := .type "slice", data := .fields #[vl, vu, .none] } } := I3.kept (t' := s3.toks) fun b ob q => Heap.get?_push_of_some _ q
  cases r1
  cases r
  cases pl with
  | int _ t1 =>
  cases pu with
  | int _ t2 =>
  refine wpAny_bind (wpAny_standAt (wpAny_bind (wpAny_holding (set_slice I4 hH hB hne (Heap.IsSliceOf.new ..) ⟨t1, rfl⟩ ⟨t2, rfl⟩ (by omega) (by omega) (by omega) hz fun s' I' => ?_))))
  exact wpAny_release ⟨σ, _, I', q⟩
end
theorem attOf_cons (L : Lay) (Ls : List Lay) : attOf (L :: Ls) = L.cnt * attOf Ls := by
  have key : ∀ (Ls : List Lay) (a : Int), Ls.foldl (fun a L => a * L.cnt) a = a * attOf Ls := by
    intro Ls
    induction Ls with
    | nil => intro a; show a = a * 1; omega
    | cons L Ls ih =>
      intro a
      have h1 := ih (a * L.cnt)
      have h2 := ih (1 * L.cnt)
      show Ls.foldl (fun a L => a * L.cnt) (a * L.cnt) = a * Ls.foldl (fun a L => a * L.cnt) (1 * L.cnt)
      rw [h1, h2, Int.one_mul, Int.mul_assoc]
  have := key Ls (1 * L.cnt)
  rw [Int.one_mul] at this
  show Ls.foldl (fun a L => a * L.cnt) (1 * L.cnt) = _
  rw [Int.one_mul]
  exact this
theorem attOf_app : ∀ (As Bs : List Lay), attOf (As ++ Bs) = attOf As * attOf Bs
  | [], Bs => by show attOf Bs = 1 * attOf Bs; omega
  | A :: As, Bs => by rw [List.cons_append, attOf_cons, attOf_cons, attOf_app As Bs, Int.mul_assoc]
theorem attOf_rev : ∀ (As : List Lay), attOf As.reverse = attOf As
  | [] => rfl
  | A :: As => by
    rw [List.reverse_cons, attOf_snoc, attOf_rev As, attOf_cons, Int.mul_comm]
def layB : Lay → Lay → Bool
  | .pol ns, .pol ms => decide (ns = ms)
  | .con w n, .con v m => decide (w = v) && decide (n = m)
  | _, _ => false
theorem layB_iff {L M : Lay} : layB L M = true ↔ L = M := by
  cases L with
  | pol ns =>
    cases M with
    | pol ms =>
      show decide (ns = ms) = true ↔ _
      rw [decide_eq_true_eq]
      exact ⟨fun z => by rw [z], fun z => by injection z⟩
    | con w n => exact ⟨fun z => (by cases z), fun z => (by cases z)⟩
  | con w n =>
    cases M with
    | pol ms => exact ⟨fun z => (by cases z), fun z => (by cases z)⟩
    | con v m =>
      show (decide (w = v) && decide (n = m)) = true ↔ _
      rw [Bool.and_eq_true, decide_eq_true_eq, decide_eq_true_eq]
      exact ⟨fun ⟨h1, h2⟩ => by rw [h1, h2], fun z => by injection z with a b; exact ⟨a, b⟩⟩
def laysB : List Lay → List Lay → Bool
  | [], [] => true
  | L :: Ls, M :: Ms => layB L M && laysB Ls Ms
  | _, _ => false
theorem laysB_iff : ∀ {Ls Ms : List Lay}, laysB Ls Ms = true ↔ Ls = Ms
  | [], [] => ⟨fun _ => rfl, fun _ => rfl⟩
  | [], _ :: _ => ⟨fun z => (by cases z), fun z => (by cases z)⟩
  | _ :: _, [] => ⟨fun z => (by cases z), fun z => (by cases z)⟩
  | L :: Ls, M :: Ms => by
    show (layB L M && laysB Ls Ms) = true ↔ _
    rw [Bool.and_eq_true, layB_iff, laysB_iff]
    exact ⟨fun ⟨h1, h2⟩ => by rw [h1, h2], fun z => by injection z with a b; exact ⟨a, b⟩⟩
theorem eqv_dat (L M : Lay) : PyData.eqv L.dat M.dat = layB L M := by
  cases L with
  | pol ns =>
    cases M with
    | pol ms =>
      show PyData.eqv (dInts ns) (dInts ms) = decide (ns = ms)
      exact eqv_ints ns ms
    | con w n =>
      show PyData.eqv (.list _) (.tuple _) = false
      simp [PyData.eqv]
  | con w n =>
    cases M with
    | pol ms =>
      show PyData.eqv (.tuple _) (.list _) = false
      simp [PyData.eqv]
    | con v m =>
      show PyData.eqv (.tuple [.int w, .int n]) (.tuple [.int v, .int m]) = (decide (w = v) && decide (n = m))
      simp only [PyData.eqv, PyData.eqvAll]
      by_cases h1 : w = v <;> by_cases h2 : n = m <;> simp [h1, h2]
theorem eqv_lays : ∀ (Ls Ms : List Lay), PyData.eqv (.list (Ls.map Lay.dat)) (.list (Ms.map Lay.dat)) = laysB Ls Ms := by
  have key : ∀ (Ls Ms : List Lay), PyData.eqvAll (Ls.map Lay.dat) (Ms.map Lay.dat) = laysB Ls Ms := by
    intro Ls
    induction Ls with
    | nil => intro Ms; cases Ms <;> simp [PyData.eqvAll, laysB]
    | cons L Ls ih =>
      intro Ms
      cases Ms with
      | nil => simp [PyData.eqvAll, laysB]
      | cons M Ms => simp only [List.map_cons, PyData.eqvAll, eqv_dat, ih Ms, laysB]
  intro Ls Ms
  simp only [PyData.eqv]
  exact key Ls Ms
theorem shaped_lays (Ls : List Lay) : SeqAt.shaped (.list (Ls.map Lay.dat)) = true := by
  have key : ∀ Ls : List Lay, PyData.canLayAll0 (Ls.map Lay.dat) = true ∧ PyData.depthAll (Ls.map Lay.dat) ≤ 2 := by
    intro Ls
    induction Ls with
    | nil => exact ⟨by simp [PyData.canLayAll0], by simp [PyData.depthAll]⟩
    | cons L Ls ih =>
      have h : L.dat.canLay0 = true ∧ L.dat.depth ≤ 2 := by
        cases L with
        | pol ns =>
          have := depth_ints ns
          exact ⟨by simp [Lay.dat, dInts, PyData.canLay0, canLay_ints ns], by simp only [Lay.dat, dInts, PyData.depth]; omega⟩
        | con w n => exact ⟨by simp [Lay.dat, PyData.canLay0, PyData.canLayAll0], by simp [Lay.dat, PyData.depth, PyData.depthAll]⟩
      refine ⟨by simp [PyData.canLayAll0, h.1, ih.1], ?_⟩
      simp only [List.map_cons, PyData.depthAll]
      omega
  obtain ⟨h1, h2⟩ := key Ls
  unfold SeqAt.shaped
  rw [Bool.and_eq_true]
  refine ⟨?_, decide_eq_true ?_⟩
  · simpa [PyData.canLay0] using h1
  · simp only [PyData.depth]
    omega
/-! ## layers beside their values -/
def LaysP (H : Hp) (ps : List (V × Lay)) : Prop := ∀ p ∈ ps, LayAt H p.1 p.2
theorem nest_pairs {H : Hp} {q : Addr} {Ls : List Lay} (h : NestAt H q Ls) : ∃ ps : List (V × Lay), H q = some (.lst (ps.map Prod.fst)) ∧ Ls = ps.map Prod.snd ∧ LaysP H ps := by
  obtain ⟨vs, h1, h2, h3⟩ := h
  refine ⟨vs.zip Ls, ?_, ?_, fun p hp => ?_⟩
  · rw [List.map_fst_zip (by omega)]
    exact h1
  · rw [List.map_snd_zip (by omega)]
  · obtain ⟨i, hi, e⟩ := List.getElem_of_mem hp
    rw [List.getElem_zip] at e
    subst e
    rw [List.length_zip] at hi
    exact h3 i _ _ (List.getElem?_eq_getElem (by omega)) (List.getElem?_eq_getElem (by omega))
theorem pairs_nest {H : Hp} {q : Addr} {ps : List (V × Lay)} (h : H q = some (.lst (ps.map Prod.fst))) (hp : LaysP H ps) : NestAt H q (ps.map Prod.snd) := by
  refine ⟨_, h, by rw [List.length_map, List.length_map], fun i v L a b => ?_⟩
  rw [List.getElem?_map] at a b
  cases e : ps[i]? with
  | none => rw [e] at a; cases a
  | some p =>
    rw [e] at a b
    cases a
    cases b
    exact hp p (List.mem_of_getElem? e)
theorem LaysP.same {H H' : Hp} {ps : List (V × Lay)} (h : LaysP H ps) (e : Same H H') : LaysP H' ps := fun p hp => (h p hp).same e
theorem LaysP.ne {H G : Hp} {a r : Addr} {ps : List (V × Lay)} (h : LaysP (hid a a H) ps) (f : H r = none) : ∀ p ∈ ps, ∀ x, p.1 = V.ref x → x ≠ r := fun p hp x e z => by
  have := h p hp
  have key : ∃ o, hid a a H x = some o := by
    revert this
    cases p.2 with
    | pol ns => intro ⟨y, h1, h2⟩; rw [e] at h1; cases h1; exact ⟨_, h2⟩
    | con w n => intro ⟨y, h1, h2⟩; rw [e] at h1; cases h1; exact ⟨_, h2⟩
  obtain ⟨o, ho⟩ := key
  have := (hid_get ho).1
  rw [z, f] at this
  cases this
theorem flat_one {ns : List Int} (h : (Lay.pol ns).ok = true) : flatL [.pol ns] = ns := by
  rw [flatL_cons fun L hL => by rw [List.mem_singleton.mp hL]; exact h]
  exact nestL_nil _
theorem flat_nn {Ls : List Lay} (h : ∀ L ∈ Ls, L.ok = true) : (Lay.pol (flatL Ls)).ok = true := by
  rw [Lay.ok_pol, List.all_eq_true]
  have key : ∀ Ls : List Lay, (∀ L ∈ Ls, L.ok = true) → ∀ x ∈ flatL Ls, 0 ≤ x := by
    intro Ls
    induction Ls with
    | nil => intro _ x hx; cases hx
    | cons L Ls ih =>
      intro h x hx
      rw [flatL_cons h] at hx
      rcases nestL_mem hx with z | z
      · have ho := h L List.mem_cons_self
        cases L with
        | pol ns =>
          rw [Lay.ok_pol, List.all_eq_true] at ho
          exact of_decide_eq_true (ho x z)
        | con w n =>
          rw [Lay.ok_con, Bool.and_eq_true] at ho
          rw [(List.mem_replicate.mp (show x ∈ List.replicate (n - 1).toNat w from z)).2]
          exact of_decide_eq_true ho.1
      · exact ih (fun M hM => h M (List.mem_cons_of_mem _ hM)) x z
  exact fun x hx => decide_eq_true (key Ls h x hx)
theorem nf_snoc {acc : List Lay} {L : Lay} (h : NF acc) (hL : L.nf) (hn : ∀ A w n v m, acc = A ++ [.con w n] → L = .con v m → w ≠ v) : NF (acc ++ [L]) := by
  rcases push_cases acc L with ⟨A, w, n, m, rfl, rfl, _⟩ | ⟨e, _⟩
  · exact absurd rfl (hn A w n w m rfl rfl)
  · rw [← e]
    exact (push_ok h hL).1
def Small (ps : List (V × Lay)) : Prop := ∀ x ∈ ps, x.2.cnt ≤ 29 ∧ ∀ w n, x.2 = .con w n → n ≤ 12
end Rn

set_option Elab.async false
set_option linter.all false
set_option maxRecDepth 100000
set_option maxHeartbeats 4000000
namespace Rn
open PySem PySem.Spec PyProof.Rows L2
/-! ## every policy has a normal form -/
theorem sm_exists (ws : List Int) (h0 : 0 < ws.length) : ∃ n, Sm ws n := by
  have key : ∀ m, 2 ≤ m → m ≤ ws.length + 1 → (∃ n, Sm ws n) ∨ ∀ j : Nat, 2 ≤ j → j < m → innB ws (j : Int) = false := by
    intro m
    induction m with
    | zero => intro h; omega
    | succ m ih =>
      intro h1 h2
      by_cases e : m < 2
      · exact .inr fun j a b => by omega
      · rcases ih (by omega) (by omega) with z | z
        · exact .inl z
        · cases q : innB ws (m : Int) with
          | true => exact .inl ⟨m, .inr ⟨by omega, by omega, q⟩, z⟩
          | false =>
            refine .inr fun j a b => ?_
            by_cases y : j = m
            · rw [y, q]
            · exact z j a (by omega)
  rcases key (ws.length + 1) (by omega) (Nat.le_refl _) with z | z
  · exact z
  · exact ⟨ws.length + 1, .inl rfl, z⟩
theorem parts_exist : ∀ (m : Nat) (ws : List Int), ws.length ≤ m → ∃ ls, Parts ws ls
  | 0, ws, h => by
    have : ws = [] := List.length_eq_zero_iff.mp (by omega)
    subst this
    exact ⟨[], .nil⟩
  | m + 1, ws, h => by
    by_cases h0 : 0 < ws.length
    · obtain ⟨n, hn⟩ := sm_exists ws h0
      obtain ⟨n2, hp⟩ := sm_per hn h0
      obtain ⟨q, hq⟩ := hp.2.1
      have q1 : 1 ≤ q := by
        rcases Nat.eq_zero_or_pos q with z | z
        · rw [z, Nat.mul_zero] at hq; omega
        · exact z
      have hl := high_len hp.1 q1 hq
      have hlt : (pks ws (n - 1) n).length ≤ m := by
        have : 2 * q ≤ n * q := Nat.mul_le_mul_right _ n2
        omega
      obtain ⟨ls, hls⟩ := parts_exist m _ hlt
      have lo := low_len hp
      by_cases c : Flat1 (blk ws n 0)
      · obtain ⟨w, hw⟩ := c
        rw [lo] at hw
        exact ⟨_, .con h0 hn hw hls⟩
      · exact ⟨_, .pol h0 hn c hls⟩
    · have : ws = [] := List.length_eq_zero_iff.mp (by omega)
      subst this
      exact ⟨[], .nil⟩
theorem nf_exists {ws : List Int} (h : ∀ x ∈ ws, 0 ≤ x) : ∃ ls, NF ls ∧ flatL ls = ws := by
  obtain ⟨ls, hls⟩ := parts_exist _ ws (Nat.le_refl _)
  obtain ⟨p1, p2⟩ := parts_ok hls h
  obtain ⟨m1, m2⟩ := merge_ok p1
  exact ⟨_, m1, m2.trans p2⟩
open Classical in
noncomputable def nfOf (ws : List Int) : List Lay := if h : ∃ ls, NF ls ∧ flatL ls = ws then h.choose else []
theorem nfOf_ok {ws : List Int} (h : ∀ x ∈ ws, 0 ≤ x) : NF (nfOf ws) ∧ flatL (nfOf ws) = ws := by
  have e := nf_exists h
  unfold nfOf
  rw [dif_pos e]
  exact e.choose_spec
theorem nfOf_eq {ws : List Int} {ls : List Lay} (h : ∀ x ∈ ws, 0 ≤ x) (n : NF ls) (e : flatL ls = ws) : nfOf ws = ls := by
  obtain ⟨a, b⟩ := nfOf_ok h
  exact nf_unique a n (b.trans e.symm)
/-! ## the normal form of a list of layers -/
theorem flat_pos : ∀ {Ls : List Lay}, (∀ L ∈ Ls, L.ok = true) → ∀ x ∈ flatL Ls, 0 ≤ x
  | [], _, x, hx => by cases hx
  | L :: Ls, h, x, hx => by
    rw [flatL_cons h] at hx
    rcases nestL_mem hx with z | z
    · have hL := h L List.mem_cons_self
      cases L with
      | pol ns =>
        rw [Lay.ok_pol, List.all_eq_true] at hL
        exact of_decide_eq_true (hL x z)
      | con w n =>
        have z' : x ∈ List.replicate (n - 1).toNat w := z
        rw [Lay.ok_con, Bool.and_eq_true] at hL
        rw [(List.mem_replicate.mp z').2]
        exact of_decide_eq_true hL.1
    · exact flat_pos (fun M hM => h M (List.mem_cons_of_mem _ hM)) x z
noncomputable def nfL (Ls : List Lay) : List Lay := nfOf (flatL Ls)
theorem nfL_ok {Ls : List Lay} (h : ∀ L ∈ Ls, L.ok = true) : NF (nfL Ls) ∧ flatL (nfL Ls) = flatL Ls := nfOf_ok (flat_pos h)
theorem nfL_is {Ls Ms : List Lay} (h : ∀ L ∈ Ls, L.ok = true) (n : NF Ms) (e : flatL Ms = flatL Ls) : nfL Ls = Ms := nfOf_eq (flat_pos h) n e
theorem nfL_nf {Ls : List Lay} (h : NF Ls) : nfL Ls = Ls := nfL_is h.oks h rfl
/-- nestings that the program can work with -/
structure Fit (Ls : List Lay) : Prop where
  ok : ∀ L ∈ Ls, L.ok = true
  few : Ls.length ≤ 20000
  small : (attOf Ls).natAbs < 2 ^ 9000
  short : ∀ ns, Lay.pol ns ∈ Ls → ns.length ≤ 20000
theorem nf_pow2 : ∀ {ls : List Lay}, (∀ L ∈ ls, L.nf) → 2 ^ ls.length ≤ (flatL ls).length + 1
  | [], _ => by show 2 ^ 0 ≤ 0 + 1; decide
  | L :: ls, h => by
    rw [flatL_cons fun M hM => (h M hM).ok, nestL_len, List.length_cons, Nat.pow_succ, Nat.mul_comm]
    have h1 := nf_pow2 fun M hM => h M (List.mem_cons_of_mem _ hM)
    have h2 : 2 ≤ L.waits.length + 1 := (h L List.mem_cons_self).sz
    exact Nat.mul_le_mul h2 h1
theorem Fit.nf {Ls : List Lay} (h : Fit Ls) : attOf (nfL Ls) = attOf Ls ∧ (nfL Ls).length < 9000 ∧ ∀ L ∈ nfL Ls, 1 ≤ L.cnt ∧ L.cnt.natAbs < 2 ^ 9000 := by
  obtain ⟨n, e⟩ := nfL_ok h.ok
  have e1 := flatL_len _ (nfL Ls) rfl n.oks
  have e2 := flatL_len _ Ls rfl h.ok
  rw [e] at e1
  have ea : attOf (nfL Ls) = attOf Ls := by omega
  refine ⟨ea, ?_, fun L hL => ?_⟩
  · have h1 := nf_pow2 n.1
    rw [e] at h1
    have h4 : 2 ^ (nfL Ls).length < 2 ^ 9000 := by
      have := h.small
      generalize 2 ^ 9000 = B at *
      generalize 2 ^ (nfL Ls).length = C at *
      omega
    exact (Nat.pow_lt_pow_iff_right (by decide)).mp h4
  · have c1 := LayAt.con_pos (n.oks L hL)
    have c2 := cnt_le n.oks hL
    have := h.small
    rw [ea] at c2
    exact ⟨c1, Nat.lt_of_le_of_lt (by omega) this⟩
end Rn

set_option Elab.async false
set_option linter.all false
set_option maxRecDepth 100000
set_option maxHeartbeats 4000000
namespace Rn
open PySem PySem.Spec PyProof.Rows L2
/-! # normal forms put together and taken apart -/
/-- two lists of layers one after the other, the layers at the seam joined -/
def joinL (ps xs : List Lay) : List Lay :=
  match ps.getLast?, xs with
  | some (.con w n), .con v m :: r => if w = v then ps.dropLast ++ .con w (n * m) :: r else ps ++ xs
  | _, _ => ps ++ xs
def Seam (ps xs : List Lay) : Prop := ∃ A w n m B, ps = A ++ [Lay.con w n] ∧ xs = Lay.con w m :: B
theorem join_seam (A : List Lay) (w n m : Int) (B : List Lay) : joinL (A ++ [.con w n]) (.con w m :: B) = A ++ .con w (n * m) :: B := by
  unfold joinL
  rw [List.getLast?_append, List.getLast?_singleton, Option.some_or]
  show (if w = w then _ else _) = _
  rw [if_pos rfl, List.dropLast_concat]
theorem join_plain {ps xs : List Lay} (h : ¬ Seam ps xs) : joinL ps xs = ps ++ xs := by
  rcases List.eq_nil_or_concat ps with e | ⟨A, p, e⟩
  · subst e
    rfl
  · rw [List.concat_eq_append] at e
    subst e
    unfold joinL
    rw [List.getLast?_append, List.getLast?_singleton, Option.some_or]
    cases p with
    | pol ns => rfl
    | con w n =>
      cases xs with
      | nil => rfl
      | cons x r =>
        cases x with
        | pol ms => rfl
        | con v m =>
          show (if w = v then _ else _) = _
          rw [if_neg fun z => h ⟨A, w, n, m, r, rfl, by rw [z]⟩]
theorem join_or (ps xs : List Lay) : (∃ A w n m B, ps = A ++ [Lay.con w n] ∧ xs = Lay.con w m :: B ∧ joinL ps xs = A ++ .con w (n * m) :: B) ∨ (¬ Seam ps xs ∧ joinL ps xs = ps ++ xs) := by
  by_cases h : Seam ps xs
  · obtain ⟨A, w, n, m, B, rfl, rfl⟩ := h
    exact .inl ⟨A, w, n, m, B, rfl, rfl, join_seam A w n m B⟩
  · exact .inr ⟨h, join_plain h⟩
theorem join_nil (ps : List Lay) : joinL ps [] = ps := by
  rw [join_plain, List.append_nil]
  rintro ⟨A, w, n, m, B, _, e⟩
  cases e
theorem nil_join (xs : List Lay) : joinL [] xs = xs := rfl
/-! parts of a normal form -/
theorem NF.app {As Bs : List Lay} (h : NF (As ++ Bs)) : NF As ∧ NF Bs ∧ ¬ Seam As Bs := by
  refine ⟨⟨fun L hL => h.1 L (List.mem_append_left _ hL), fun i w n w' m a b => ?_⟩, ⟨fun L hL => h.1 L (List.mem_append_right _ hL), fun i w n w' m a b => ?_⟩, ?_⟩
  · have h1 := (List.getElem?_eq_some_iff.mp a).1
    have h2 := (List.getElem?_eq_some_iff.mp b).1
    exact h.2 i w n w' m (by rw [List.getElem?_append_left h1]; exact a) (by rw [List.getElem?_append_left h2]; exact b)
  · refine h.2 (As.length + i) w n w' m ?_ ?_
    · rw [List.getElem?_append_right (by omega), Nat.add_sub_cancel_left]
      exact a
    · rw [show As.length + i + 1 = As.length + (i + 1) by omega, List.getElem?_append_right (by omega), Nat.add_sub_cancel_left]
      exact b
  · rintro ⟨A, w, n, m, B, rfl, rfl⟩
    refine h.2 A.length w n w m ?_ ?_ rfl
    · rw [List.append_assoc, List.getElem?_append_right (Nat.le_refl _), Nat.sub_self]
      rfl
    · rw [List.append_assoc, List.getElem?_append_right (by omega), show A.length + 1 - A.length = 1 by omega]
      rfl
theorem nf_app {As Bs : List Lay} (ha : NF As) (hb : NF Bs) (h : ¬ Seam As Bs) : NF (As ++ Bs) := by
  refine ⟨fun L hL => ?_, fun i w n w' m a b => ?_⟩
  · rcases List.mem_append.mp hL with z | z
    · exact ha.1 L z
    · exact hb.1 L z
  · by_cases h1 : i + 1 < As.length
    · rw [List.getElem?_append_left (by omega)] at a
      rw [List.getElem?_append_left h1] at b
      exact ha.2 i w n w' m a b
    · by_cases h2 : i < As.length
      · intro e
        subst e
        rw [List.getElem?_append_left h2] at a
        rw [List.getElem?_append_right (by omega), show i + 1 - As.length = 0 by omega] at b
        apply h
        cases Bs with
        | nil => cases b
        | cons x r =>
          have eb : x = .con w m := Option.some.inj b
          subst eb
          have hne : As ≠ [] := fun z => by rw [z] at h2; cases h2
          refine ⟨As.dropLast, w, n, m, r, ?_, rfl⟩
          have h3 := (List.dropLast_concat_getLast hne).symm
          have h4 : As.getLast hne = .con w n := by
            have h5 : As[As.length - 1]? = some (As.getLast hne) := by rw [← List.getLast?_eq_getElem?, List.getLast?_eq_some_getLast hne]
            rw [show As.length - 1 = i by omega, a] at h5
            exact (Option.some.inj h5).symm
          rw [h4] at h3
          exact h3
      · rw [List.getElem?_append_right (by omega)] at a b
        rw [show i + 1 - As.length = (i - As.length) + 1 by omega] at b
        exact hb.2 _ w n w' m a b
theorem NF.rev {ls : List Lay} (h : NF ls) : NF ls.reverse := by
  refine ⟨fun L hL => h.1 L (List.mem_reverse.mp hL), fun i w n w' m a b e => ?_⟩
  have h2 := (List.getElem?_eq_some_iff.mp b).1
  rw [List.length_reverse] at h2
  rw [List.getElem?_reverse (by omega)] at a
  rw [List.getElem?_reverse (by omega)] at b
  exact h.2 (ls.length - 1 - (i + 1)) w' m w n b (by rw [show ls.length - 1 - (i + 1) + 1 = ls.length - 1 - i by omega]; exact a) e.symm
theorem nf_one {L : Lay} (h : L.nf) : NF [L] := ⟨fun M hM => by rw [List.mem_singleton.mp hM]; exact h, fun i w n w' m a b => by cases b⟩
theorem nf_nil : NF [] := ⟨(fun _ z => nomatch z), fun i w n w' m a => by cases a⟩
/-! the join of normal forms -/
theorem join_ok {ps xs : List Lay} (hp : NF ps) (hx : NF xs) : NF (joinL ps xs) ∧ flatL (joinL ps xs) = nestL (flatL ps) (flatL xs) := by
  rcases join_or ps xs with ⟨A, w, n, m, B, rfl, rfl, e⟩ | ⟨h, e⟩
  · rw [e]
    have hn := hp.1 (.con w n) (List.mem_append_right _ List.mem_cons_self)
    have hm := hx.1 (.con w m) List.mem_cons_self
    have n2 : 2 ≤ n := hn.2
    have m2 : 2 ≤ m := hm.2
    have nm : 2 * 2 ≤ n * m := Int.mul_le_mul n2 m2 (by decide) (by omega)
    have g : (Lay.con w (n * m)).nf := ⟨hn.1, by omega⟩
    obtain ⟨hA, _, sA⟩ := hp.app
    have hB : NF ([.con w m] ++ B) := hx
    obtain ⟨_, hB1, sB⟩ := hB.app
    have s1 : ¬ Seam [Lay.con w (n * m)] B := fun ⟨A', w', n', m', B', e1, e2⟩ => by
      have := (List.append_inj' (s₁ := []) e1 rfl).2
      cases this
      exact sB ⟨[], w, m, m', B', rfl, e2⟩
    have t1 : NF (.con w (n * m) :: B) := nf_app (nf_one g) hB1 s1
    have s2 : ¬ Seam A (.con w (n * m) :: B) := fun ⟨A', w', n', m', B', e1, e2⟩ => by
      cases e2
      exact sA ⟨A', w, n', n, [], e1, rfl⟩
    refine ⟨nf_app hA t1 s2, ?_⟩
    rw [flat_app hA.oks t1.oks, flatL_cons t1.oks, flat_app hA.oks (fun L hL => hp.oks L (List.mem_append_right _ hL)), flatL_cons hx.oks, nestL_assoc, ← nestL_assoc (flatL [.con w n])]
    congr 2
    rw [flatL_cons fun L hL => by rw [List.mem_singleton.mp hL]; exact hn.ok]
    show List.replicate (n * m - 1).toNat w = nestL (nestL (List.replicate (n - 1).toNat w) []) (List.replicate (m - 1).toNat w)
    rw [nestL_nil, nest_rep, show (n - 1).toNat + 1 = n.toNat by omega, show (m - 1).toNat + 1 = m.toNat by omega, ← Int.toNat_mul (by omega) (by omega)]
    congr 1
    omega
  · rw [e]
    have t := nf_app hp hx h
    exact ⟨t, flat_app hp.oks hx.oks⟩
theorem join_of {ls ps xs : List Lay} (hl : NF ls) (hp : NF ps) (hx : NF xs) (e : nestL (flatL ps) (flatL xs) = flatL ls) : joinL ps xs = ls := by
  obtain ⟨a, b⟩ := join_ok hp hx
  exact nf_unique a hl (b.trans e)
theorem join_assoc {ps xs ys : List Lay} (hp : NF ps) (hx : NF xs) (hy : NF ys) : joinL (joinL ps xs) ys = joinL ps (joinL xs ys) := by
  obtain ⟨a1, a2⟩ := join_ok hp hx
  obtain ⟨b1, b2⟩ := join_ok a1 hy
  obtain ⟨c1, c2⟩ := join_ok hx hy
  obtain ⟨d1, d2⟩ := join_ok hp c1
  exact nf_unique b1 d1 (by rw [b2, d2, a2, c2, nestL_assoc])
theorem merge_join {ps xs : List Lay} (hp : NF ps) (hx : NF xs) : mergeL (ps ++ xs) = joinL ps xs := by
  obtain ⟨a1, a2⟩ := join_ok hp hx
  obtain ⟨b1, b2⟩ := merge_ok (ls := ps ++ xs) fun L hL => (List.mem_append.mp hL).elim (hp.1 L) (hx.1 L)
  exact nf_unique b1 a1 (by rw [b2, a2, flat_app hp.oks hx.oks])
theorem merge_nf {ls : List Lay} (h : NF ls) : mergeL ls = ls := by
  obtain ⟨b1, b2⟩ := merge_ok h.1
  exact nf_unique b1 h b2
theorem seam_rev {ps xs : List Lay} : Seam xs.reverse ps.reverse ↔ Seam ps xs := by
  constructor
  · rintro ⟨A, w, n, m, B, e1, e2⟩
    refine ⟨B.reverse, w, m, n, A.reverse, ?_, ?_⟩
    · have := congrArg List.reverse e2
      rw [List.reverse_reverse, List.reverse_cons] at this
      exact this
    · have := congrArg List.reverse e1
      rw [List.reverse_reverse, List.reverse_append] at this
      exact this
  · rintro ⟨A, w, n, m, B, rfl, rfl⟩
    exact ⟨B.reverse, w, m, n, A.reverse, by rw [List.reverse_cons], by rw [List.reverse_append]; rfl⟩
theorem join_rev (ps xs : List Lay) : (joinL ps xs).reverse = joinL xs.reverse ps.reverse := by
  rcases join_or ps xs with ⟨A, w, n, m, B, rfl, rfl, e⟩ | ⟨h, e⟩
  · rw [e, List.reverse_append, List.reverse_cons, List.reverse_cons, List.reverse_append]
    have := join_seam B.reverse w m n A.reverse
    show _ = joinL (B.reverse ++ [.con w m]) ([Lay.con w n].reverse ++ A.reverse)
    rw [show [Lay.con w n].reverse ++ A.reverse = .con w n :: A.reverse from rfl, this, Int.mul_comm m n, List.append_assoc]
    rfl
  · rw [e, join_plain fun z => h (seam_rev.mp z), List.reverse_append]
/-! ## what is left of a normal form without its first part -/
/-- of one layer -/
def woL (l p : Lay) : Option (List Lay) :=
  if layB l p = true then some [] else match l, p with
    | .con w n, .con v m => if w = v ∧ n % m = 0 then some [.con w (n / m)] else none
    | _, _ => none
def woS (ls ps : List Lay) : Option (List Lay) :=
  if ps = [] then some ls
  else match ls[ps.length - 1]?, ps[ps.length - 1]? with
    | some l, some p => if laysB (ls.take (ps.length - 1)) (ps.take (ps.length - 1)) = true then (woL l p).map fun left => left ++ ls.drop ps.length else none
    | _, _ => none
theorem layB_refl (L : Lay) : layB L L = true := layB_iff.mpr rfl
theorem laysB_refl (Ls : List Lay) : laysB Ls Ls = true := laysB_iff.mpr rfl
theorem woS_snoc (A : List Lay) (p l : Lay) (B : List Lay) : woS (A ++ l :: B) (A ++ [p]) = (woL l p).map fun left => left ++ B := by
  unfold woS
  rw [if_neg (by simp), List.length_append, List.length_singleton, Nat.add_sub_cancel]
  rw [List.getElem?_append_right (Nat.le_refl _), Nat.sub_self, List.getElem?_append_right (Nat.le_refl _), Nat.sub_self]
  show (if laysB ((A ++ l :: B).take A.length) ((A ++ [p]).take A.length) = true then _ else _) = _
  rw [List.take_left, List.take_left, if_pos (laysB_refl A)]
  congr 1
  funext left
  congr 1
  rw [List.drop_append, List.drop_of_length_le (by omega), show A.length + 1 - A.length = 1 by omega]
  rfl
/-- what was joined comes apart -/
theorem woS_join {ps xs : List Lay} (hp : NF ps) (hx : NF xs) : woS (joinL ps xs) ps = some xs := by
  rcases join_or ps xs with ⟨A, w, n, m, B, rfl, rfl, e⟩ | ⟨h, e⟩
  · rw [e, woS_snoc]
    have n2 : 2 ≤ n := (hp.1 (.con w n) (List.mem_append_right _ List.mem_cons_self)).2
    have m2 : 2 ≤ m := (hx.1 (.con w m) List.mem_cons_self).2
    unfold woL
    rw [if_neg fun z => ?_]
    · show Option.map _ (if w = w ∧ n * m % n = 0 then some [Lay.con w (n * m / n)] else none) = _
      rw [if_pos ⟨rfl, Int.mul_emod_right n m⟩, Int.mul_ediv_cancel_left m (by omega)]
      rfl
    · have := layB_iff.mp z
      injection this with _ this
      have h3 : n * 2 ≤ n * m := Int.mul_le_mul_of_nonneg_left m2 (by omega)
      omega
  · rw [e]
    rcases List.eq_nil_or_concat ps with e2 | ⟨A, p, e2⟩
    · subst e2
      rfl
    · rw [List.concat_eq_append] at e2
      subst e2
      rw [List.append_assoc]
      show woS (A ++ p :: xs) (A ++ [p]) = _
      rw [woS_snoc]
      unfold woL
      rw [if_pos (layB_refl p)]
      rfl
/-- what is taken apart was joined -/
theorem woS_some {ls ps xs : List Lay} (hl : NF ls) (hp : NF ps) (h : woS ls ps = some xs) : NF xs ∧ joinL ps xs = ls := by
  rcases List.eq_nil_or_concat ps with e2 | ⟨A, p, e2⟩
  · subst e2
    have : some ls = some xs := h
    cases this
    exact ⟨hl, rfl⟩
  · rw [List.concat_eq_append] at e2
    subst e2
    have hlen : (A ++ [p]).length - 1 = A.length := by rw [List.length_append, List.length_singleton]; omega
    cases el : ls[A.length]? with
    | none =>
      unfold woS at h
      rw [if_neg (by simp), hlen, el] at h
      cases h
    | some l =>
      have hA : A.length < ls.length := (List.getElem?_eq_some_iff.mp el).1
      have e0 : ls = ls.take A.length ++ l :: ls.drop (A.length + 1) := by
        have h1 := (List.take_append_drop A.length ls).symm
        rw [List.drop_eq_getElem_cons hA] at h1
        have h2 := (List.getElem?_eq_some_iff.mp el).2
        rw [h2] at h1
        exact h1
      have hh := h
      unfold woS at hh
      rw [if_neg (by simp), hlen, el, List.getElem?_append_right (Nat.le_refl _), Nat.sub_self] at hh
      have hh : (if laysB (ls.take A.length) ((A ++ [p]).take A.length) = true then _ else _) = some xs := hh
      rw [List.take_left] at hh
      by_cases eA : ls.take A.length = A
      · rw [eA] at e0
        rw [e0, woS_snoc] at h
        rw [e0] at hl ⊢
        generalize ls.drop (A.length + 1) = B at *
        obtain ⟨nA, nlB, sA⟩ := hl.app
        have nlB' : NF ([l] ++ B) := nlB
        obtain ⟨nl, nB, sB⟩ := nlB'.app
        cases hw : woL l p with
        | none => rw [hw] at h; cases h
        | some left =>
          rw [hw] at h
          have ex : left ++ B = xs := Option.some.inj h
          subst ex
          unfold woL at hw
          by_cases c : layB l p = true
          · rw [if_pos c] at hw
            cases hw
            have := layB_iff.mp c
            subst this
            refine ⟨nB, ?_⟩
            show joinL (A ++ [l]) B = A ++ l :: B
            rw [join_plain, List.append_assoc]
            · rfl
            · rintro ⟨A', w, n, m, B', e1, e2⟩
              obtain ⟨q1, q2⟩ := List.append_inj' e1 rfl
              cases q2
              exact sB ⟨[], w, n, m, B', rfl, e2⟩
          · rw [if_neg c] at hw
            cases l with
            | pol ns => cases p <;> cases hw
            | con w n =>
              cases p with
              | pol ms => cases hw
              | con v m =>
                have hw : (if w = v ∧ n % m = 0 then some [Lay.con w (n / m)] else none) = some left := hw
                by_cases cc : w = v ∧ n % m = 0
                · rw [if_pos cc] at hw
                  cases hw
                  obtain ⟨rfl, cd⟩ := cc
                  have hn := nl.1 _ List.mem_cons_self
                  have hm := hp.1 (.con w m) (List.mem_append_right _ List.mem_cons_self)
                  have n2 : 2 ≤ n := hn.2
                  have m2 : 2 ≤ m := hm.2
                  have em : m * (n / m) = n := Int.mul_ediv_cancel' (Int.dvd_of_emod_eq_zero cd)
                  have nm : n ≠ m := fun z => c (layB_iff.mpr (by rw [z]))
                  have q2 : 2 ≤ n / m := by
                    rcases Int.lt_or_le (n / m) 2 with z | z
                    · exfalso
                      have : n / m ≤ 0 ∨ n / m = 1 := by omega
                      rcases this with y | y
                      · have : m * (n / m) ≤ m * 0 := Int.mul_le_mul_of_nonneg_left y (by omega)
                        omega
                      · rw [y, Int.mul_one] at em
                        exact nm em.symm
                    · exact z
                  have sq : ¬ Seam [Lay.con w (n / m)] B := fun ⟨A', w', n', m', B', e1, e2⟩ => by
                    have := (List.append_inj' (s₁ := []) e1 rfl).2
                    cases this
                    exact sB ⟨[], w, n, m', B', rfl, e2⟩
                  refine ⟨nf_app (nf_one ⟨hn.1, q2⟩) nB sq, ?_⟩
                  show joinL (A ++ [.con w m]) (.con w (n / m) :: B) = _
                  rw [join_seam, em]
                · rw [if_neg cc] at hw
                  cases hw
      · rw [if_neg fun z => eA (laysB_iff.mp z)] at hh
        cases hh
/-! ## lists of layers cut and put together -/
/-- the layers us of Ls, at any place -/
def Lays (G : Hp) (us : List V) (Ls : List Lay) : Prop := us.length = Ls.length ∧ ∀ (i : Nat) v L, us[i]? = some v → Ls[i]? = some L → LayAt G v L
theorem NestV.lays {H0 G : Hp} {p : Addr} {us : List V} {Ls : List Lay} (h : NestV H0 G p us Ls) : Lays G us Ls := ⟨h.2.1, h.2.2.1⟩
theorem Lays.same {G G' : Hp} {us : List V} {Ls : List Lay} (h : Lays G us Ls) (e : Same G G') : Lays G' us Ls := ⟨h.1, fun i v L a b => (h.2 i v L a b).same e⟩
theorem Lays.nest {G : Hp} {p : Addr} {us : List V} {Ls : List Lay} (h : Lays G us Ls) (hp : G p = some (.lst us)) : NestAt G p Ls := ⟨us, hp, h.1, h.2⟩
theorem Lays.take {G : Hp} {us : List V} {Ls : List Lay} (h : Lays G us Ls) (n : Nat) : Lays G (us.take n) (Ls.take n) := by
  refine ⟨by rw [List.length_take, List.length_take, h.1], fun i v L a b => ?_⟩
  rw [List.getElem?_take] at a b
  by_cases c : i < n
  · rw [if_pos c] at a b
    exact h.2 i v L a b
  · rw [if_neg c] at a
    cases a
theorem Lays.drop {G : Hp} {us : List V} {Ls : List Lay} (h : Lays G us Ls) (n : Nat) : Lays G (us.drop n) (Ls.drop n) := by
  refine ⟨by rw [List.length_drop, List.length_drop, h.1], fun i v L a b => ?_⟩
  rw [List.getElem?_drop] at a b
  exact h.2 _ v L a b
theorem Lays.rev {G : Hp} {us : List V} {Ls : List Lay} (h : Lays G us Ls) : Lays G us.reverse Ls.reverse := by
  refine ⟨by rw [List.length_reverse, List.length_reverse, h.1], fun i v L a b => ?_⟩
  have h1 := (List.getElem?_eq_some_iff.mp a).1
  have h2 := (List.getElem?_eq_some_iff.mp b).1
  rw [List.length_reverse] at h1 h2
  rw [List.getElem?_reverse h1] at a
  rw [List.getElem?_reverse h2] at b
  rw [h.1] at a
  exact h.2 _ v L a b
theorem Lays.app {G : Hp} {us vs : List V} {Ls Ms : List Lay} (h : Lays G us Ls) (h2 : Lays G vs Ms) : Lays G (us ++ vs) (Ls ++ Ms) := by
  refine ⟨by rw [List.length_append, List.length_append, h.1, h2.1], fun i v L a b => ?_⟩
  by_cases c : i < us.length
  · rw [List.getElem?_append_left c] at a
    rw [List.getElem?_append_left (by rw [← h.1]; exact c)] at b
    exact h.2 i v L a b
  · rw [List.getElem?_append_right (by omega)] at a
    rw [List.getElem?_append_right (by rw [← h.1]; omega), ← h.1] at b
    exact h2.2 _ v L a b
theorem Lays.get {G : Hp} {us : List V} {Ls : List Lay} (h : Lays G us Ls) {i : Nat} {L : Lay} (hi : Ls[i]? = some L) : ∃ v, us[i]? = some v ∧ LayAt G v L := by
  have h1 := (List.getElem?_eq_some_iff.mp hi).1
  rw [← h.1] at h1
  exact ⟨us[i], List.getElem?_eq_getElem h1, h.2 i _ L (List.getElem?_eq_getElem h1) hi⟩
theorem Lays.ref {G : Hp} {us : List V} {Ls : List Lay} (h : Lays G us Ls) {v : V} (hv : v ∈ us) : ∃ x o, v = .ref x ∧ G x = some o := by
  obtain ⟨i, hi, e⟩ := List.getElem_of_mem hv
  have h1 : i < Ls.length := by rw [← h.1]; exact hi
  have := h.2 i v Ls[i] (by rw [List.getElem?_eq_getElem hi, e]) (List.getElem?_eq_getElem h1)
  generalize Ls[i] = L at this
  cases L with
  | pol ns => obtain ⟨x, e1, e2⟩ := this; exact ⟨x, _, e1, e2⟩
  | con w n => obtain ⟨x, e1, e2⟩ := this; exact ⟨x, _, e1, e2⟩
/-- elements that are new since H0 -/
def New0 (H0 : Hp) (us : List V) : Prop := ∀ x, V.ref x ∈ us → H0 x = none
theorem NestV.new0 {H0 G : Hp} {p : Addr} {us : List V} {Ls : List Lay} (h : NestV H0 G p us Ls) : New0 H0 us := fun x hx => (h.2.2.2 x hx).2
/-- a list of such layers at a new place -/
theorem nestV_new {H0 G : Hp} {r : Addr} {us : List V} {Ls : List Lay} (h : Lays G us Ls) (n : New0 H0 us) (hr : G r = none) : NestV H0 (upd G r (.lst us)) r us Ls := by
  refine ⟨upd_same, h.1, fun i v L a b => ?_, fun x hx => ⟨fun z => ?_, n x hx⟩⟩
  · exact (h.2 i v L a b).same (same_new hr)
  · obtain ⟨y, o, e1, e2⟩ := h.ref hx
    cases e1
    rw [z, hr] at e2
    cases e2
theorem New0.sub {H0 : Hp} {us vs : List V} (h : New0 H0 us) (e : ∀ v ∈ vs, v ∈ us) : New0 H0 vs := fun x hx => h x (e _ hx)
theorem New0.app {H0 : Hp} {us vs : List V} (h : New0 H0 us) (h2 : New0 H0 vs) : New0 H0 (us ++ vs) := fun x hx => (List.mem_append.mp hx).elim (h x) (h2 x)
/-- what is new since H and what stood in H have nothing in common -/
theorem nodup_new {G : Hp} {us vs : List V} {Ls : List Lay} (h : Lays G vs Ls) (n : New0 G us) (hu : us.Nodup) (hv : vs.Nodup) : (us ++ vs).Nodup := by
  rw [List.nodup_append]
  refine ⟨hu, hv, fun x hx y hy e => ?_⟩
  subst e
  obtain ⟨z, o, e1, e2⟩ := h.ref hy
  subst e1
  rw [n z hx] at e2
  cases e2
/-! ## the common inner part -/
def gcdZ (n m : Int) : Int := ((Nat.gcd n.natAbs m.natAbs : Nat) : Int)
theorem gcdZ_comm (n m : Int) : gcdZ n m = gcdZ m n := by unfold gcdZ; rw [Nat.gcd_comm]
theorem gcdZ_dvd {n m : Int} (h : 2 ≤ n) : gcdZ n m ∣ n ∧ gcdZ n m ∣ m ∧ 1 ≤ gcdZ n m := by
  unfold gcdZ
  refine ⟨Int.natAbs_dvd_natAbs.mp (by rw [Int.natAbs_natCast]; exact Nat.gcd_dvd_left _ _), Int.natAbs_dvd_natAbs.mp (by rw [Int.natAbs_natCast]; exact Nat.gcd_dvd_right _ _), ?_⟩
  have := Nat.gcd_pos_of_pos_left m.natAbs (show 0 < n.natAbs by omega)
  omega
def ciO (L M : Lay) : List Lay :=
  if layB L M = true then [L] else match L, M with
    | .con w n, .con v m => if w = v ∧ 1 < gcdZ n m then [.con w (gcdZ n m)] else []
    | _, _ => []
def ciL : List Lay → List Lay → List Lay
  | l :: ls, m :: ms => if layB l m = true then l :: ciL ls ms else ciO l m
  | _, _ => []
theorem ciL_nil_r (ls : List Lay) : ciL ls [] = [] := by cases ls <;> rfl
theorem layB_comm (L M : Lay) : layB L M = layB M L := by
  rw [Bool.eq_iff_iff, layB_iff, layB_iff]
  exact ⟨Eq.symm, Eq.symm⟩
theorem ciO_comm (L M : Lay) : ciO L M = ciO M L := by
  unfold ciO
  by_cases c : layB L M = true
  · have e := layB_iff.mp c
    subst e
    rfl
  · rw [if_neg c, if_neg (by rw [layB_comm]; exact c)]
    cases L with
    | pol ns => cases M <;> rfl
    | con w n =>
      cases M with
      | pol ms => rfl
      | con v m =>
        show (if w = v ∧ 1 < gcdZ n m then [Lay.con w (gcdZ n m)] else []) = if v = w ∧ 1 < gcdZ m n then [Lay.con v (gcdZ m n)] else []
        rw [gcdZ_comm m n]
        by_cases e : w = v
        · subst e
          rfl
        · rw [if_neg fun z => e z.1, if_neg fun z => e z.1.symm]
theorem ciL_comm : ∀ ls ms : List Lay, ciL ls ms = ciL ms ls
  | [], ms => by cases ms <;> rfl
  | l :: ls, [] => rfl
  | l :: ls, m :: ms => by
    unfold ciL
    by_cases c : layB l m = true
    · have e := layB_iff.mp c
      subst e
      rw [if_pos c, if_pos c, ciL_comm ls ms]
    · rw [if_neg c, if_neg (by rw [layB_comm]; exact c), ciO_comm]
theorem join_cons {l : Lay} {c xs : List Lay} (h : c ≠ []) : joinL (l :: c) xs = l :: joinL c xs := by
  rcases join_or c xs with ⟨A, w, n, m, B, rfl, rfl, e⟩ | ⟨hs, e⟩
  · rw [e]
    exact join_seam (l :: A) w n m B
  · rw [e, join_plain]
    · rfl
    · rintro ⟨A, w, n, m, B, e1, e2⟩
      cases A with
      | nil =>
        injection e1 with _ e1
        exact h e1
      | cons a A =>
        injection e1 with _ e1
        exact hs ⟨A, w, n, m, B, e1, e2⟩
theorem join_one {l : Lay} {xs : List Lay} (h : NF (l :: xs)) : joinL [l] xs = l :: xs := by
  have h' : NF ([l] ++ xs) := h
  rw [join_plain h'.app.2.2]
  rfl
theorem con_split {w n g : Int} {r : List Lay} (h : NF (.con w n :: r)) (hg : g ∣ n) (g2 : 2 ≤ g) : ∃ xs, NF xs ∧ joinL [.con w g] xs = .con w n :: r := by
  obtain ⟨q, rfl⟩ := hg
  have hn := h.1 _ List.mem_cons_self
  have n2 : 2 ≤ g * q := hn.2
  have q1 : 1 ≤ q := by
    rcases Int.lt_or_le q 1 with z | z
    · have : g * q ≤ g * 0 := Int.mul_le_mul_of_nonneg_left (by omega) (by omega)
      omega
    · exact z
  have h' : NF ([.con w (g * q)] ++ r) := h
  obtain ⟨_, nr, sr⟩ := h'.app
  by_cases e : q = 1
  · subst e
    rw [Int.mul_one] at h ⊢
    exact ⟨r, nr, join_one h⟩
  · have sq : ¬ Seam [Lay.con w q] r := fun ⟨A', w', n', m', B', e1, e2⟩ => by
      have := (List.append_inj' (s₁ := []) e1 rfl).2
      cases this
      exact sr ⟨[], w, g * q, m', B', rfl, e2⟩
    exact ⟨.con w q :: r, nf_app (nf_one (L := .con w q) ⟨hn.1, by omega⟩) nr sq, join_seam [] w g q r⟩
theorem ciO_cases {L M : Lay} (h : layB L M ≠ true) : ciO L M = [] ∨ ∃ w n m, L = .con w n ∧ M = .con w m ∧ 1 < gcdZ n m ∧ ciO L M = [.con w (gcdZ n m)] := by
  unfold ciO
  rw [if_neg h]
  cases L with
  | pol ns => cases M <;> exact .inl rfl
  | con w n =>
    cases M with
    | pol ms => exact .inl rfl
    | con v m =>
      show (if w = v ∧ 1 < gcdZ n m then [Lay.con w (gcdZ n m)] else []) = [] ∨ _
      by_cases c : w = v ∧ 1 < gcdZ n m
      · obtain ⟨rfl, c2⟩ := c
        exact .inr ⟨w, n, m, rfl, rfl, c2, if_pos ⟨rfl, c2⟩⟩
      · exact .inl (if_neg c)
/-- the head of the common part is as the head of the first -/
theorem ciL_seam {l : Lay} : ∀ {ls ms : List Lay}, Seam [l] (ciL ls ms) → Seam [l] ls
  | [], ms, h => by
    have : ciL [] ms = [] := by cases ms <;> rfl
    rw [this] at h
    exact h
  | x :: ls, [], h => by
    obtain ⟨A, w, n, m, B, e1, e2⟩ := h
    cases e2
  | x :: ls, y :: ms, h => by
    obtain ⟨A, w, n, m, B, e1, e2⟩ := h
    unfold ciL at e2
    by_cases c : layB x y = true
    · rw [if_pos c] at e2
      injection e2 with e2 _
      exact ⟨A, w, n, m, ls, e1, by rw [e2]⟩
    · rw [if_neg c] at e2
      rcases ciO_cases c with z | ⟨w', n', m', rfl, rfl, _, z⟩
      · rw [z] at e2; cases e2
      · rw [z] at e2
        cases e2
        exact ⟨A, _, _, _, ls, e1, rfl⟩
theorem ciL_nf : ∀ {ls ms : List Lay}, NF ls → NF (ciL ls ms)
  | [], ms, _ => by
    have : ciL [] ms = [] := by cases ms <;> rfl
    rw [this]
    exact nf_nil
  | x :: ls, [], _ => nf_nil
  | x :: ls, y :: ms, h => by
    have h' : NF ([x] ++ ls) := h
    obtain ⟨nx, nl, sx⟩ := h'.app
    unfold ciL
    by_cases c : layB x y = true
    · rw [if_pos c]
      exact nf_app nx (ciL_nf nl) fun z => sx (ciL_seam z)
    · rw [if_neg c]
      rcases ciO_cases c with z | ⟨w, n, m, rfl, rfl, g, z⟩
      · rw [z]
        exact nf_nil
      · rw [z]
        exact nf_one ⟨(h.1 _ List.mem_cons_self).1, g⟩
/-- the common part is a part of the first -/
theorem ciL_div : ∀ {ls ms : List Lay}, NF ls → ∃ xs, NF xs ∧ joinL (ciL ls ms) xs = ls
  | [], ms, h => ⟨[], nf_nil, by
    have : ciL [] ms = [] := by cases ms <;> rfl
    rw [this]
    rfl⟩
  | x :: ls, [], h => ⟨x :: ls, h, rfl⟩
  | x :: ls, y :: ms, h => by
    have h' : NF ([x] ++ ls) := h
    obtain ⟨nx, nl, sx⟩ := h'.app
    unfold ciL
    by_cases c : layB x y = true
    · rw [if_pos c]
      obtain ⟨xs, n1, e1⟩ := ciL_div (ms := ms) nl
      refine ⟨xs, n1, ?_⟩
      by_cases z : ciL ls ms = []
      · rw [z] at e1 ⊢
        have e2 : xs = ls := e1
        subst e2
        exact join_one h
      · rw [join_cons z, e1]
    · rw [if_neg c]
      rcases ciO_cases c with z | ⟨w, n, m, rfl, rfl, g, z⟩
      · rw [z]
        exact ⟨_, h, rfl⟩
      · rw [z]
        have n2 := (h.1 _ List.mem_cons_self).2
        exact con_split h (gcdZ_dvd n2).1 g
theorem ciL_cons_same (l : Lay) (ls ms : List Lay) : ciL (l :: ls) (l :: ms) = l :: ciL ls ms := by
  show (if layB l l = true then _ else _) = _
  rw [if_pos (layB_refl l)]
/-- every common part is a part of it -/
theorem ciL_max : ∀ {ps xs ys : List Lay}, NF ps → NF xs → NF ys → ∃ zs, NF zs ∧ joinL ps zs = ciL (joinL ps xs) (joinL ps ys)
  | [], xs, ys, _, hx, hy => ⟨ciL xs ys, ciL_nf hx, rfl⟩
  | [p], xs, ys, hp, hx, hy => by
    have npx := (join_ok hp hx).1
    have npy := (join_ok hp hy).1
    rcases join_or [p] xs with ⟨A, w, n, m1, B, e1, rfl, ex⟩ | ⟨sx, ex⟩
    · have e1' := List.append_inj' (s₁ := []) e1 rfl
      obtain ⟨rfl, e1''⟩ := e1'
      cases e1''
      have ex : joinL [.con w n] (.con w m1 :: B) = .con w (n * m1) :: B := ex
      have n2 : 2 ≤ n := (hp.1 _ List.mem_cons_self).2
      have w0 : 0 ≤ w := (hp.1 _ List.mem_cons_self).1
      have m12 : 2 ≤ m1 := (hx.1 _ List.mem_cons_self).2
      rw [ex] at npx ⊢
      rcases join_or [.con w n] ys with ⟨A, w', n', m2, B', e1, rfl, ey⟩ | ⟨sy, ey⟩
      · have e1' := List.append_inj' (s₁ := []) e1 rfl
        obtain ⟨rfl, e1''⟩ := e1'
        cases e1''
        have ey : joinL [.con w n] (.con w m2 :: B') = .con w (n * m2) :: B' := ey
        have m22 : 2 ≤ m2 := (hy.1 _ List.mem_cons_self).2
        rw [ey] at npy ⊢
        by_cases em : m1 = m2
        · subst em
          rw [ciL_cons_same]
          have nB := ciL_nf (ms := B') (show NF B from hx.tail)
          have hx' : NF ([.con w m1] ++ B) := hx
          have sq : ¬ Seam [Lay.con w m1] (ciL B B') := fun z => hx'.app.2.2 (ciL_seam z)
          exact ⟨.con w m1 :: ciL B B', nf_app (nf_one (L := .con w m1) ⟨w0, m12⟩) nB sq, join_seam [] w n m1 _⟩
        · have ne : layB (.con w (n * m1)) (.con w (n * m2)) ≠ true := fun z => by
            have := layB_iff.mp z
            injection this with _ this
            exact em (Int.eq_of_mul_eq_mul_left (by omega) this)
          have eg : gcdZ (n * m1) (n * m2) = n * gcdZ m1 m2 := by
            unfold gcdZ
            rw [Int.natAbs_mul, Int.natAbs_mul, Nat.gcd_mul_left, Int.natCast_mul]
            congr 1
            omega
          obtain ⟨_, _, g1⟩ := gcdZ_dvd (n := m1) (m := m2) m12
          have gb : n * 1 ≤ n * gcdZ m1 m2 := Int.mul_le_mul_of_nonneg_left g1 (by omega)
          have ec : ciL (.con w (n * m1) :: B) (.con w (n * m2) :: B') = [.con w (n * gcdZ m1 m2)] := by
            show (if layB _ _ = true then _ else _) = _
            rw [if_neg ne]
            unfold ciO
            rw [if_neg ne]
            show (if w = w ∧ 1 < gcdZ (n * m1) (n * m2) then [Lay.con w (gcdZ (n * m1) (n * m2))] else []) = _
            rw [eg, if_pos ⟨rfl, by omega⟩]
          rw [ec]
          by_cases e1 : gcdZ m1 m2 = 1
          · rw [e1, Int.mul_one]
            exact ⟨[], nf_nil, join_nil _⟩
          · exact ⟨[.con w (gcdZ m1 m2)], nf_one ⟨w0, by omega⟩, join_seam [] w n _ []⟩
      · rw [ey] at npy ⊢
        have ne : layB (.con w (n * m1)) (.con w n) ≠ true := fun z => by
          have := layB_iff.mp z
          injection this with _ this
          have h3 : n * 2 ≤ n * m1 := Int.mul_le_mul_of_nonneg_left m12 (by omega)
          omega
        have eg : gcdZ (n * m1) n = n := by
          unfold gcdZ
          rw [Int.natAbs_mul, Nat.gcd_comm, Nat.gcd_mul_right_right]
          omega
        refine ⟨[], nf_nil, ?_⟩
        rw [join_nil]
        show _ = (if layB _ _ = true then _ else _)
        rw [if_neg ne]
        unfold ciO
        rw [if_neg ne]
        show _ = (if w = w ∧ 1 < gcdZ (n * m1) n then [Lay.con w (gcdZ (n * m1) n)] else [])
        rw [eg, if_pos ⟨rfl, by omega⟩]
    · rw [ex] at npx ⊢
      rcases join_or [p] ys with ⟨A, w, n, m2, B, e1, rfl, ey⟩ | ⟨sy, ey⟩
      · have e1' := List.append_inj' (s₁ := []) e1 rfl
        obtain ⟨rfl, e1''⟩ := e1'
        cases e1''
        have ey : joinL [.con w n] (.con w m2 :: B) = .con w (n * m2) :: B := ey
        have n2 : 2 ≤ n := (hp.1 _ List.mem_cons_self).2
        have m22 : 2 ≤ m2 := (hy.1 _ List.mem_cons_self).2
        rw [ey] at npy ⊢
        have ne : layB (.con w n) (.con w (n * m2)) ≠ true := fun z => by
          have := layB_iff.mp z
          injection this with _ this
          have h3 : n * 2 ≤ n * m2 := Int.mul_le_mul_of_nonneg_left m22 (by omega)
          omega
        have eg : gcdZ n (n * m2) = n := by
          unfold gcdZ
          rw [Int.natAbs_mul, Nat.gcd_mul_right_right]
          omega
        refine ⟨[], nf_nil, ?_⟩
        rw [join_nil]
        show _ = (if layB _ _ = true then _ else _)
        rw [if_neg ne]
        unfold ciO
        rw [if_neg ne]
        show _ = (if w = w ∧ 1 < gcdZ n (n * m2) then [Lay.con w (gcdZ n (n * m2))] else [])
        rw [eg, if_pos ⟨rfl, by omega⟩]
      · rw [ey] at npy ⊢
        have e : ciL ([p] ++ xs) ([p] ++ ys) = p :: ciL xs ys := ciL_cons_same p xs ys
        rw [e]
        refine ⟨ciL xs ys, ciL_nf hx, ?_⟩
        rw [join_plain fun z => sx (ciL_seam z)]
        rfl
  | p :: q :: ps, xs, ys, hp, hx, hy => by
    obtain ⟨zs, n1, e1⟩ := ciL_max (ps := q :: ps) hp.tail hx hy
    refine ⟨zs, n1, ?_⟩
    have ne : q :: ps ≠ [] := List.cons_ne_nil _ _
    rw [join_cons (xs := zs) ne, join_cons (xs := xs) ne, join_cons (xs := ys) ne, ciL_cons_same, e1]
/-! a walk over two lists of any lengths -/
theorem for_zip3 {K : PySem.W.Frag} {a b : Addr} {xs ys : List V} {g : TG} {tb : TS} {D : Ends} {σ : L2.St} {H : Hp} (Pv : Nat → L2.St → Hp → Prop) (h0 : Pv 0 σ H) (hq : ∀ i σ H, Pv i σ H → SqL K H a xs ∧ SqL K H b ys)
    (hs : ∀ (i : Nat) (x y : V) (T : Addr) (σ : L2.St) (H : Hp), xs[i]? = some x → ys[i]? = some y → Pv i σ H → H T = none → g (.ref T) σ (upd H T (.tup [x, y])) fun σ2 H2 => tb { D with nx := Pv (i + 1), ct := Pv (i + 1), bk := D.nx } σ2 H2) (hd : ∀ i σ H, i = min xs.length ys.length → Pv i σ H → D.nx σ H) :
    ∃ W : Nat → Nat → L2.St → Hp → Prop, (∃ m, W 0 m σ H) ∧ ∀ i m σ H, W i m σ H →
      ((Itz K a b).stop i H ∧ D.nx σ H) ∨ ((Itz K a b).go i H ∧ ∃ N : L2.St → Hp → Prop, (∀ σ' H', N σ' H' → ∃ m', m' < m ∧ W (i + 1) m' σ' H') ∧ ∀ v H', (Itz K a b).yld i H v H' → g v σ H' fun σ2 H2 => tb { D with nx := N, ct := N, bk := D.nx } σ2 H2) := by
  generalize hmin : min xs.length ys.length = l at *
  refine ⟨fun i m σ H => m = l - i ∧ i ≤ l ∧ Pv i σ H, ⟨l, rfl, Nat.zero_le _, h0⟩, ?_⟩
  rintro i m σ H ⟨rfl, hi, p⟩
  obtain ⟨qx, qy⟩ := hq i σ H p
  by_cases hlt : i < l
  · have hx : xs[i]? = some (xs[i]'(by omega)) := List.getElem?_eq_getElem (by omega)
    have hy : ys[i]? = some (ys[i]'(by omega)) := List.getElem?_eq_getElem (by omega)
    refine .inr ⟨⟨xs, ys, _, _, qx, qy, hx, hy⟩, Pv (i + 1), fun σ' H' p' => ⟨l - (i + 1), by omega, rfl, hlt, p'⟩, fun v H' y => ?_⟩
    obtain ⟨T, x', y', rfl, hT, rfl, f1, f2⟩ := y
    exact hs i x' y' T σ H (f1 xs qx) (f2 ys qy) p hT
  · have e : i = l := by omega
    refine .inl ⟨⟨xs, ys, qx, qy, ?_⟩, hd i σ H e p⟩
    omega
theorem nodup_rev {α : Type} {l : List α} (h : l.Nodup) : l.reverse.Nodup := by
  unfold List.Nodup at *
  rw [List.pairwise_reverse]
  exact h.imp fun a => Ne.symm a
theorem Lays.carry {G G' : Hp} {us : List V} {Ls : List Lay} (h : Lays G us Ls) (k : ∀ x o, V.ref x ∈ us → G x = some o → G' x = some o) : Lays G' us Ls := by
  refine ⟨h.1, fun i v L a b => ?_⟩
  have l := h.2 i v L a b
  have m := List.mem_of_getElem? a
  cases L with
  | pol ns => obtain ⟨x, rfl, e⟩ := l; exact ⟨x, rfl, k x _ m e⟩
  | con w n => obtain ⟨x, rfl, e⟩ := l; exact ⟨x, rfl, k x _ m e⟩
theorem Lays.none (G : Hp) : Lays G [] [] := ⟨rfl, fun i v L a => by cases a⟩
theorem eqv_lay {K : PySem.W.Frag} {H : Hp} {u v : V} {L M : Lay} (hL : LayAt H u L) (hM : LayAt H v M) : Dp K H u L.dat ∧ Dp K H v M.dat ∧ SeqAt.shaped L.dat = true ∧ SeqAt.shaped M.dat = true ∧ PyData.eqv L.dat M.dat = layB L M := by
  have sh : ∀ L : Lay, SeqAt.shaped L.dat = true := fun L => by
    cases L with
    | pol ns => exact shaped_ints ns
    | con w n =>
      unfold SeqAt.shaped
      rw [Bool.and_eq_true]
      refine ⟨?_, decide_eq_true ?_⟩
      · show (PyData.tuple [.int w, .int n]).canLay0 = true
        simp only [PyData.canLay0, PyData.canLayAll0, Bool.and_true]
      · show (PyData.tuple [.int w, .int n]).depth ≤ _
        simp only [PyData.depth, PyData.depthAll]
        decide
  exact ⟨dp_lay hL, dp_lay hM, sh L, sh M, eqv_dat L M⟩
end Rn

set_option Elab.async false
set_option linter.all false
set_option maxRecDepth 100000
set_option maxHeartbeats 4000000
namespace Rn
open PySem PySem.Spec PyProof.Rows L2
/-! # errors: where the first invalid layer stands -/
def badAt (Ls : List Lay) : Option Nat := Ls.findIdx? (fun L => !L.ok)
theorem badAt_none {Ls : List Lay} (h : badAt Ls = none) : ∀ L ∈ Ls, L.ok = true := fun L hL => by
  have := List.findIdx?_eq_none_iff.mp h L hL
  simpa using this
theorem badAt_all {Ls : List Lay} (h : ∀ L ∈ Ls, L.ok = true) : badAt Ls = none := List.findIdx?_eq_none_iff.mpr fun L hL => by rw [h L hL]; rfl
theorem badAt_first {Ls : List Lay} {i : Nat} (hi : i < Ls.length) (h : Ls[i].ok = false) (h0 : ∀ j : Nat, j < i → ∀ L, Ls[j]? = some L → L.ok = true) : badAt Ls = some i := by
  unfold badAt
  rw [List.findIdx?_eq_some_iff_getElem]
  refine ⟨hi, by rw [h]; rfl, fun j hj => ?_⟩
  have hjl : j < Ls.length := by omega
  rw [h0 j hj _ (List.getElem?_eq_getElem hjl)]
  decide
/-- the error of class C with this value ends the call -/
def Err (C : Addr) (v : V) (H : Hp) (E : XK) : Prop := ∀ H' d, Same H H' → H' d = some (.xd [(("value" : Str), v)]) → E (.ref C) (some d) H'
theorem Err.step {C : Addr} {v : V} {H H' : Hp} {E : XK} (h : Err C v H E) (s : Same H H') : Err C v H' E := fun H2 d s2 hd => h H2 d (s.trans s2) hd
end Rn
namespace Rn
open PySem PySem.Spec PyProof.Rows L2
/-- the same as a value -/
def badV (Ls : List Lay) : V := match badAt Ls with
  | none => .non
  | some i => .int (i : Nat)
/-- layers of which some have given way to invalid ones -/
def Bent (Ms Ls : List Lay) : Prop := Ms.length = Ls.length ∧ ∀ (i : Nat) M, Ms[i]? = some M → Ls[i]? = some M ∨ M.ok = false
theorem Bent.refl (Ls : List Lay) : Bent Ls Ls := ⟨rfl, fun _ _ h => .inl h⟩
theorem Bent.same {Ms Ls : List Lay} (h : Bent Ms Ls) (b : badAt Ms = none) : Ms = Ls := by
  refine List.ext_getElem? fun i => ?_
  cases e : Ms[i]? with
  | none => rw [List.getElem?_eq_none_iff] at e; rw [List.getElem?_eq_none_iff.mpr (by rw [← h.1]; exact e)]
  | some M =>
    rcases h.2 i M e with z | z
    · exact z.symm
    · rw [badAt_none b M (List.mem_of_getElem? e)] at z
      cases z
theorem Bent.set {Ms Ls : List Lay} (h : Bent Ms Ls) (i : Nat) {M : Lay} (b : M.ok = false) : Bent (Ms.set i M) Ls := by
  refine ⟨by rw [List.length_set]; exact h.1, fun j N hj => ?_⟩
  rw [List.getElem?_set] at hj
  split at hj
  · split at hj
    · cases hj
      exact .inr b
    · cases hj
  · exact h.2 j N hj
theorem nest_hid {a g p : Addr} {G : Hp} {Ls : List Lay} (h : NestAt (hid a g G) p Ls) : NestAt G p Ls := by
  obtain ⟨us, h1, h2, h3⟩ := h
  have l : Lays (hid a g G) us Ls := ⟨h2, h3⟩
  exact (l.carry fun x o _ e => (hid_get e).1).nest (hid_get h1).1
end Rn

set_option Elab.async false
set_option linter.all false
set_option maxRecDepth 100000
set_option maxHeartbeats 4000000
namespace Rn
open PySem PySem.Spec PyProof.Rows L2
/-! ## the source of draws that is a dict: at a, its great numbers at g; at most n draws were mixed -/
def bagKV (g : Addr) (l t f : Int) : List (Key × V) := [(Sum.inr "great", .ref g), (Sum.inr "left", .int l), (Sum.inr "turn", .int t), (Sum.inr "fold", .int f)]
theorem bag_left {g : Addr} {l t f x : Int} : putK (bagKV g l t f) (Sum.inr "left") (.int x) = bagKV g x t f := by rfl
theorem bag_turn {g : Addr} {l t f x : Int} : putK (bagKV g l t f) (Sum.inr "turn") (.int x) = bagKV g l x f := by rfl
theorem bag_get {H : Hp} {a g : Addr} {l t f : Int} (h : H a = some (.dK (bagKV g l t f))) : DGet H a (.str "left") (some (.int l)) ∧ DGet H a (.str "great") (some (.ref g)) ∧ DGet H a (.str "turn") (some (.int t)) ∧ DGet H a (.str "fold") (some (.int f)) :=
  ⟨DGet.k (k := Sum.inr "left") h, DGet.k (k := Sum.inr "great") h, DGet.k (k := Sum.inr "turn") h, DGet.k (k := Sum.inr "fold") h⟩
def Bag (H : Hp) (a g : Addr) (n : Int) : Prop := ∃ (l t f : Int) (ds : List Int), H a = some (.dK (bagKV g l t f)) ∧ H g = some (.lst (ds.map V.int)) ∧ 0 ≤ f ∧ f < 2305843009213693951 ∧ 0 ≤ t ∧ t ≤ n
theorem Bag.ne {H : Hp} {a g : Addr} {n : Int} (s : Bag H a g n) : a ≠ g := by
  obtain ⟨l, t, f, ds, h1, h2, _⟩ := s
  intro e
  rw [e, h2] at h1
  cases h1
theorem Bag.same {H H' : Hp} {a g : Addr} {n : Int} (s : Bag H a g n) (e : Same H H') : Bag H' a g n := by
  obtain ⟨l, t, f, ds, h1, h2, h3⟩ := s
  exact ⟨l, t, f, ds, e _ _ h1, e _ _ h2, h3⟩
theorem Bag.keep {H : Hp} {a g p : Addr} {o : HO} {n : Int} (s : Bag H a g n) (ha : p ≠ a) (hg : p ≠ g) : Bag (upd H p o) a g n := by
  obtain ⟨l, t, f, ds, h1, h2, h3⟩ := s
  exact ⟨l, t, f, ds, by rw [upd_ne ha.symm]; exact h1, by rw [upd_ne hg.symm]; exact h2, h3⟩
theorem Bag.mono {H : Hp} {a g : Addr} {n m : Int} (s : Bag H a g n) (h : n ≤ m) : Bag H a g m := by
  obtain ⟨l, t, f, ds, h1, h2, h3, h4, h5, h6⟩ := s
  exact ⟨l, t, f, ds, h1, h2, h3, h4, h5, Int.le_trans h6 h⟩
theorem Bag.new1 {H : Hp} {a g p : Addr} {n : Int} (s : Bag H a g n) (h : H p = none) : p ≠ a ∧ p ≠ g := by
  obtain ⟨l, t, f, ds, h1, h2, _⟩ := s
  exact ⟨(ne_of_none h1 h).symm, (ne_of_none h2 h).symm⟩
/-- what a call that draws at most c times does to the heap -/
structure Bdv (a g : Addr) (c : Int) (H H' : Hp) : Prop where
  same : Same (hid a g H) (hid a g H')
  src : ∀ n, Bag H a g n → Bag H' a g (n + c)
theorem Bdv.refl {a g : Addr} {H : Hp} : Bdv a g 0 H H := ⟨Same.refl _, fun n s => s.mono (by omega)⟩
theorem Bdv.trans {a g : Addr} {c c' e : Int} {H H1 H2 : Hp} (x : Bdv a g c H H1) (y : Bdv a g c' H1 H2) (h : c + c' ≤ e) : Bdv a g e H H2 :=
  ⟨x.same.trans y.same, fun n s => (y.src _ (x.src _ s)).mono (by omega)⟩
theorem Bdv.mono {a g : Addr} {c e : Int} {H H1 : Hp} (x : Bdv a g c H H1) (h : c ≤ e) : Bdv a g e H H1 := ⟨x.same, fun n s => (x.src _ s).mono (by omega)⟩
theorem Bdv.of {a g : Addr} {H H' : Hp} (e : Same H H') : Bdv a g 0 H H' := ⟨hid_same e, fun n s => (s.same e).mono (by omega)⟩
theorem Bdv.mut {a g : Addr} {c : Int} {H H' : Hp} {p : Addr} {o : HO} {n : Int} (x : Bdv a g c H H') (s : Bag H a g n) (h : H p = none) : Bdv a g c H (upd H' p o) := by
  obtain ⟨h1, h2⟩ := s.new1 h
  refine ⟨?_, fun m t => (x.src m t).keep h1 h2⟩
  rw [hid_oth h1 h2]
  exact same_keep x.same (hid_none h)
theorem Bdv.free {a g p : Addr} {c n : Int} {H H' : Hp} (x : Bdv a g c H H') (s : Bag H a g n) (h : H' p = none) : H p = none := by
  obtain ⟨h1, h2⟩ := (x.src n s).new1 h
  cases q : H p with
  | none => rfl
  | some o =>
    have e := (hid_get (x.same p o (hid_at q h1 h2))).1
    rw [h] at e
    cases e
theorem Bdv.made {a g : Addr} {c l t f l' t' : Int} {H H' : Hp} {ds' : List Int} (e : Same (hid a g H) (hid a g H')) (h : H a = some (.dK (bagKV g l t f)))
    (h' : H' a = some (.dK (bagKV g l' t' f))) (hg' : H' g = some (.lst (ds'.map V.int))) (h0 : t ≤ t') (h1 : t' ≤ t + c) : Bdv a g c H H' := by
  refine ⟨e, fun n s => ?_⟩
  obtain ⟨l2, t2, f2, ds, a1, a2, a3, a4, a5, a6⟩ := s
  rw [h] at a1
  injection (Option.some.inj a1) with a1
  injection a1 with _ a1
  injection a1 with _ a1
  injection a1 with b1 a1
  injection a1 with b2 _
  injection b1 with _ b1
  injection b1 with b1
  injection b2 with _ b2
  injection b2 with b2
  subst b1 b2
  exact ⟨l', t', f, ds', h', hg', a3, a4, by omega, by omega⟩
/-- a list of the way that stands beside the source -/
theorem sq_bag {K : PySem.W.Frag} {H0 H1 H' : Hp} {sa a g : Addr} {c : Int} {xs : List V} (h : SqL K H0 sa xs) (f : H0 a = none) (f2 : H0 g = none) (s : Same H0 H1) (A : Bdv a g c H1 H') : SqL K H' sa xs := by
  rcases h with (h | ⟨o, h⟩) | h
  · have h1 := s _ _ h
    have n1 : sa ≠ a := fun e => by rw [e, f] at h; cases h
    have n2 : sa ≠ g := fun e => by rw [e, f2] at h; cases h
    exact .inl (.inl (hid_get (A.same _ _ (hid_at h1 n1 n2))).1)
  · have h1 := s _ _ h
    have n1 : sa ≠ a := fun e => by rw [e, f] at h; cases h
    have n2 : sa ≠ g := fun e => by rw [e, f2] at h; cases h
    exact .inl (.inr ⟨o, (hid_get (A.same _ _ (hid_at h1 n1 n2))).1⟩)
  · exact .inr h
/-- a dict comprehension over a list that stands still -/
theorem dc_list {K : PySem.W.Frag} {a : Addr} {xs : List V} {g : TG} {tt : TT} {tk tv : TE} {vs : List Nat} {σ : L2.St} {H1 : Hp} {D : Addr} {Qd : Hp → Prop} (Pv : Nat → Hp → Prop) (h0 : Pv 0 (upd H1 D (.dK [])))
    (hl : ∀ i H, i ≤ xs.length → Pv i H → SqL K H a xs)
    (hs : ∀ i x H, xs[i]? = some x → Pv i H → g x (wipe σ vs) H fun σ2 H2 => wipe σ2 vs = wipe σ vs ∧ tt σ2 H2 fun b H3 =>
      if b = true then tk σ2 H3 fun y H4 => tv σ2 H4 fun z H5 => ∃ kvs k, y = kV k ∧ H5 D = some (.dK kvs) ∧ kvs.length < sizeLine ∧ Pv (i + 1) (upd H5 D (.dK (putK kvs k z))) else Pv (i + 1) H3) (hd : ∀ H, Pv xs.length H → Qd H) :
    ∃ W : Nat → Nat → Hp → Prop, (∃ m, W 0 m (upd H1 D (.dK []))) ∧ ∀ i m H, W i m H →
      ((Itl K a).stop i H ∧ Qd H) ∨ ((Itl K a).go i H ∧ ∃ Nx : Hp → Prop, (∀ H', Nx H' → ∃ m', m' < m ∧ W (i + 1) m' H') ∧ ∀ x H', (Itl K a).yld i H x H' → g x (wipe σ vs) H' fun σ2 H2 => wipe σ2 vs = wipe σ vs ∧ tt σ2 H2 fun b H3 =>
        if b = true then tk σ2 H3 fun y H4 => tv σ2 H4 fun z H5 => ∃ kvs k, y = kV k ∧ H5 D = some (.dK kvs) ∧ kvs.length < sizeLine ∧ Nx (upd H5 D (.dK (putK kvs k z))) else Nx H3) := by
  refine ⟨fun i m H => m = xs.length - i ∧ i ≤ xs.length ∧ Pv i H, ⟨xs.length, by simp, Nat.zero_le _, h0⟩, ?_⟩
  rintro i m H ⟨rfl, hi, p⟩
  have q := hl i H hi p
  by_cases hlt : i < xs.length
  · refine .inr ⟨⟨xs, xs[i], q, by simp [hlt]⟩, Pv (i + 1), fun H' p' => ⟨xs.length - (i + 1), by omega, rfl, hlt, p'⟩, fun x H' y => ?_⟩
    obtain ⟨e, y⟩ := y
    subst e
    exact hs i x _ (y xs q) p
  · have e : i = xs.length := by omega
    subst e
    exact .inl ⟨⟨xs, q, Nat.le_refl _⟩, hd H p⟩
/-! ## comprehensions over ints -/
/-- [x for x in range(lo, lo + n) if p(x)], where a turn changes nothing -/
theorem lc_filter {lo : Int} {n : Nat} {g : TG} {tt : TT} {te : TE} {vs : List Nat} {σ : L2.St} {H1 : Hp} {D : Addr} {Qd : Hp → Prop} (p : Int → Bool) (hD : H1 D = none) (hn : n ≤ 50000)
    (hs : ∀ i H (T : V → Hp → Prop) (F : Hp → Prop), i < n → Same H1 H → (p (lo + (i : Int)) = true → T (.int (lo + (i : Int))) H) → (p (lo + (i : Int)) = false → F H) →
      g (.int (lo + (i : Int))) (wipe σ vs) H fun σ2 H2 => wipe σ2 vs = wipe σ vs ∧ tt σ2 H2 fun b H3 => if b = true then te σ2 H3 T else F H3)
    (hd : ∀ H2, Same H1 H2 → H2 D = some (.lst ((((List.range n).map fun i : Nat => lo + (i : Int)).filter p).map V.int)) → Qd H2) :
    ∃ W : Nat → Nat → Hp → Prop, (∃ m, W 0 m (upd H1 D (.lst []))) ∧ ∀ i m H, W i m H →
      ((Itr lo n).stop i H ∧ Qd H) ∨ ((Itr lo n).go i H ∧ ∃ Nx : Hp → Prop, (∀ H', Nx H' → ∃ m', m' < m ∧ W (i + 1) m' H') ∧ ∀ x H', (Itr lo n).yld i H x H' → g x (wipe σ vs) H' fun σ2 H2 => wipe σ2 vs = wipe σ vs ∧ tt σ2 H2 fun b H3 =>
        if b = true then te σ2 H3 fun y H4 => ∃ acc, H4 D = some (.lst acc) ∧ acc.length < sizeLine ∧ Nx (upd H4 D (.lst (acc ++ [y]))) else Nx H3) := by
  have tk : ∀ i : Nat, ((List.range (i + 1)).map fun i : Nat => lo + (i : Int)).filter p = ((List.range i).map fun i : Nat => lo + (i : Int)).filter p ++ (if p (lo + (i : Int)) = true then [lo + (i : Int)] else []) := fun i => by
    rw [List.range_succ, List.map_append, List.filter_append]
    congr 1
    rw [List.map_cons, List.map_nil, List.filter_cons, List.filter_nil]
  refine lc_range (fun i H' => Same H1 H' ∧ H' D = some (.lst ((((List.range i).map fun i : Nat => lo + (i : Int)).filter p).map V.int))) ⟨same_new hD, upd_same⟩ (fun i H hi h => ?_) (fun H h => hd H h.1 h.2)
  obtain ⟨sm, hd1⟩ := h
  refine hs i H _ _ hi sm (fun e => ?_) (fun e => ?_)
  · refine ⟨_, hd1, size_lt ?_, same_keep sm hD, ?_⟩
    · rw [List.length_map]
      have := List.length_filter_le p ((List.range i).map fun i : Nat => lo + (i : Int))
      rw [List.length_map, List.length_range] at this
      omega
    · rw [upd_same, tk, if_pos e, List.map_append]
      rfl
  · refine ⟨sm, ?_⟩
    rw [tk, if_neg (by rw [e]; exact Bool.false_ne_true), List.append_nil]
    exact hd1
/-- [f(x) for x in ns], where a turn changes nothing that stood -/
theorem lc_mapI {K : PySem.W.Frag} {a : Addr} {ns : List Int} {g : TG} {te : TE} {vs : List Nat} {σ : L2.St} {H1 : Hp} {D : Addr} {Qd : Hp → Prop} (f : Int → Int) (hD : H1 D = none) (ha : SqL K H1 a (ns.map V.int)) (hn : ns.length ≤ 50000)
    (hs : ∀ (i : Nat) x H (T : V → Hp → Prop), ns[i]? = some x → Same H1 H → (∀ H', Same H H' → T (.int (f x)) H') → g (.int x) (wipe σ vs) H fun σ2 H2 => wipe σ2 vs = wipe σ vs ∧ te σ2 H2 T)
    (hd : ∀ H2, Same H1 H2 → H2 D = some (.lst ((ns.map f).map V.int)) → Qd H2) (hg : ∀ x σ H (R R' : L2.St → Hp → Prop), (∀ σ H, R σ H → R' σ H) → g x σ H R → g x σ H R') :
    ∃ W : Nat → Nat → Hp → Prop, (∃ m, W 0 m (upd H1 D (.lst []))) ∧ ∀ i m H, W i m H →
      ((Itl K a).stop i H ∧ Qd H) ∨ ((Itl K a).go i H ∧ ∃ Nx : Hp → Prop, (∀ H', Nx H' → ∃ m', m' < m ∧ W (i + 1) m' H') ∧ ∀ x H', (Itl K a).yld i H x H' → g x (wipe σ vs) H' fun σ2 H2 => wipe σ2 vs = wipe σ vs ∧ tYes σ2 H2 fun b H3 =>
        if b = true then te σ2 H3 fun y H4 => ∃ acc, H4 D = some (.lst acc) ∧ acc.length < sizeLine ∧ Nx (upd H4 D (.lst (acc ++ [y]))) else Nx H3) := by
  refine lc_list (xs := ns.map V.int) (fun i H' => Same H1 H' ∧ H' D = some (.lst (((ns.take i).map f).map V.int))) ⟨same_new hD, upd_same⟩ (fun i H _ h => h.1.seq ha) (fun i x H hx h => ?_) (fun H h => hd H h.1 ?_)
  · obtain ⟨sm, hd1⟩ := h
    rw [List.getElem?_map] at hx
    obtain ⟨c, hc, rfl⟩ := Option.map_eq_some_iff.mp hx
    have hi : i < ns.length := (List.getElem?_eq_some_iff.mp hc).1
    refine hg _ _ _ _ _ (fun σ2 H2 z => ⟨z.1, yes_thn z.2⟩) (hs i c H _ hc sm fun H' s' => ?_)
    refine ⟨_, s' _ _ hd1, size_lt (by rw [List.length_map, List.length_map, List.length_take]; omega), same_keep (sm.trans s') hD, ?_⟩
    rw [upd_same, List.take_add_one, hc, Option.toList_some, List.map_append, List.map_append]
    rfl
  · have := h.2
    rw [List.length_map, List.take_length] at this
    exact this
theorem gName_mono {i : Nat} : ∀ x σ H (R R' : L2.St → Hp → Prop), (∀ σ H, R σ H → R' σ H) → gName i x σ H R → gName i x σ H R' := fun x σ H R R' k h => k _ _ h
/-- [f(x) for x in ns], any values -/
theorem lc_mapV {K : PySem.W.Frag} {a : Addr} {ns : List Int} {g : TG} {te : TE} {vs : List Nat} {σ : L2.St} {H1 : Hp} {D : Addr} {Qd : Hp → Prop} (f : Int → V) (hD : H1 D = none) (ha : SqL K H1 a (ns.map V.int)) (hn : ns.length ≤ 50000)
    (hs : ∀ (i : Nat) x H (T : V → Hp → Prop), ns[i]? = some x → Same H1 H → (∀ H', Same H H' → T (f x) H') → g (.int x) (wipe σ vs) H fun σ2 H2 => wipe σ2 vs = wipe σ vs ∧ te σ2 H2 T)
    (hd : ∀ H2, Same H1 H2 → H2 D = some (.lst (ns.map f)) → Qd H2) (hg : ∀ x σ H (R R' : L2.St → Hp → Prop), (∀ σ H, R σ H → R' σ H) → g x σ H R → g x σ H R') :
    ∃ W : Nat → Nat → Hp → Prop, (∃ m, W 0 m (upd H1 D (.lst []))) ∧ ∀ i m H, W i m H →
      ((Itl K a).stop i H ∧ Qd H) ∨ ((Itl K a).go i H ∧ ∃ Nx : Hp → Prop, (∀ H', Nx H' → ∃ m', m' < m ∧ W (i + 1) m' H') ∧ ∀ x H', (Itl K a).yld i H x H' → g x (wipe σ vs) H' fun σ2 H2 => wipe σ2 vs = wipe σ vs ∧ tYes σ2 H2 fun b H3 =>
        if b = true then te σ2 H3 fun y H4 => ∃ acc, H4 D = some (.lst acc) ∧ acc.length < sizeLine ∧ Nx (upd H4 D (.lst (acc ++ [y]))) else Nx H3) := by
  refine lc_list (xs := ns.map V.int) (fun i H' => Same H1 H' ∧ H' D = some (.lst ((ns.take i).map f))) ⟨same_new hD, upd_same⟩ (fun i H _ h => h.1.seq ha) (fun i x H hx h => ?_) (fun H h => hd H h.1 ?_)
  · obtain ⟨sm, hd1⟩ := h
    rw [List.getElem?_map] at hx
    obtain ⟨c, hc, rfl⟩ := Option.map_eq_some_iff.mp hx
    have hi : i < ns.length := (List.getElem?_eq_some_iff.mp hc).1
    refine hg _ _ _ _ _ (fun σ2 H2 z => ⟨z.1, yes_thn z.2⟩) (hs i c H _ hc sm fun H' s' => ?_)
    refine ⟨_, s' _ _ hd1, size_lt (by rw [List.length_map, List.length_take]; omega), same_keep (sm.trans s') hD, ?_⟩
    rw [upd_same, List.take_add_one, hc, Option.toList_some, List.map_append]
    rfl
  · have := h.2
    rw [List.length_map, List.take_length] at this
    exact this
/-- [f(x) for x in range(lo, lo + n)], any values -/
theorem lc_mapR {lo : Int} {n : Nat} {g : TG} {te : TE} {vs : List Nat} {σ : L2.St} {H1 : Hp} {D : Addr} {Qd : Hp → Prop} (f : Int → V) (hD : H1 D = none) (hn : n ≤ 50000)
    (hs : ∀ (i : Nat) H (T : V → Hp → Prop), i < n → Same H1 H → (∀ H', Same H H' → T (f (lo + (i : Int))) H') → g (.int (lo + (i : Int))) (wipe σ vs) H fun σ2 H2 => wipe σ2 vs = wipe σ vs ∧ te σ2 H2 T)
    (hd : ∀ H2, Same H1 H2 → H2 D = some (.lst ((List.range n).map fun i : Nat => f (lo + (i : Int)))) → Qd H2) (hg : ∀ x σ H (R R' : L2.St → Hp → Prop), (∀ σ H, R σ H → R' σ H) → g x σ H R → g x σ H R') :
    ∃ W : Nat → Nat → Hp → Prop, (∃ m, W 0 m (upd H1 D (.lst []))) ∧ ∀ i m H, W i m H →
      ((Itr lo n).stop i H ∧ Qd H) ∨ ((Itr lo n).go i H ∧ ∃ Nx : Hp → Prop, (∀ H', Nx H' → ∃ m', m' < m ∧ W (i + 1) m' H') ∧ ∀ x H', (Itr lo n).yld i H x H' → g x (wipe σ vs) H' fun σ2 H2 => wipe σ2 vs = wipe σ vs ∧ tYes σ2 H2 fun b H3 =>
        if b = true then te σ2 H3 fun y H4 => ∃ acc, H4 D = some (.lst acc) ∧ acc.length < sizeLine ∧ Nx (upd H4 D (.lst (acc ++ [y]))) else Nx H3) := by
  refine lc_range (fun i H' => Same H1 H' ∧ H' D = some (.lst ((List.range i).map fun i : Nat => f (lo + (i : Int))))) ⟨same_new hD, upd_same⟩ (fun i H hi h => ?_) (fun H h => hd H h.1 h.2)
  obtain ⟨sm, hd1⟩ := h
  refine hg _ _ _ _ _ (fun σ2 H2 z => ⟨z.1, yes_thn z.2⟩) (hs i H _ hi sm fun H' s' => ?_)
  refine ⟨_, s' _ _ hd1, size_lt (by rw [List.length_map, List.length_range]; omega), same_keep (sm.trans s') hD, ?_⟩
  rw [upd_same, List.range_succ, List.map_append]
  rfl
/-- lists of ints at the addresses ps -/
def ListsAt (H : Hp) (ps : List Addr) (wss : List (List Int)) : Prop := Paired (fun p (ws : List Int) => H p = some (.lst (ws.map V.int))) ps wss
theorem ListsAt.same {H H' : Hp} {ps : List Addr} {wss : List (List Int)} (h : ListsAt H ps wss) (e : Same H H') : ListsAt H' ps wss := by
  induction h with
  | nil => exact .nil
  | cons r _ ih => exact .cons (e _ _ r) ih
theorem ListsAt.keep {H : Hp} {ps : List Addr} {wss : List (List Int)} {q : Addr} {o : HO} (h : ListsAt H ps wss) (hn : ∀ x ∈ ps, x ≠ q) : ListsAt (upd H q o) ps wss := by
  induction h with
  | nil => exact .nil
  | cons r _ ih => exact .cons (by rw [upd_ne (hn _ List.mem_cons_self)]; exact r) (ih fun x hx => hn x (List.mem_cons_of_mem _ hx))
theorem ListsAt.app {H : Hp} {ps qs : List Addr} {wss vss : List (List Int)} (h : ListsAt H ps wss) (h2 : ListsAt H qs vss) : ListsAt H (ps ++ qs) (wss ++ vss) := by
  induction h with
  | nil => exact h2
  | cons r _ ih => exact .cons r ih
theorem ListsAt.get {H : Hp} {ps : List Addr} {wss : List (List Int)} (h : ListsAt H ps wss) : ∀ {i : Nat} {p : Addr}, ps[i]? = some p → ∃ ws, wss[i]? = some ws ∧ H p = some (.lst (ws.map V.int)) := by
  induction h with
  | nil => intro i p z; cases z
  | cons r _ ih =>
    intro i p z
    cases i with
    | zero => cases z; exact ⟨_, rfl, r⟩
    | succ i => exact ih z
theorem ListsAt.len {H : Hp} {ps : List Addr} {wss : List (List Int)} (h : ListsAt H ps wss) : ps.length = wss.length := by
  induction h with
  | nil => rfl
  | cons _ _ ih => rw [List.length_cons, List.length_cons, ih]
theorem ListsAt.some {H : Hp} {ps : List Addr} {wss : List (List Int)} (h : ListsAt H ps wss) {p : Addr} (hp : p ∈ ps) : ∃ o, H p = some o := by
  obtain ⟨i, hi, e⟩ := List.getElem_of_mem hp
  obtain ⟨ws, _, z⟩ := h.get (i := i) (p := p) (by rw [List.getElem?_eq_getElem hi, e])
  exact ⟨_, z⟩
end Rn

set_option Elab.async false
set_option linter.all false
set_option maxRecDepth 100000
set_option maxHeartbeats 4000000
namespace Rn
open PySem PySem.Spec PyProof.Rows L2
/-! # counting flat values in a list; calls of a def that a list gives -/
section
variable {X : Cx}
def rCntV (K : PySem.W.Frag) : V → List V → Hp → VK → Prop := fun x xs H Q => ∃ (p : Addr) (ys : List V) (y : V), x = .ref p ∧ xs = [y] ∧ SqL K H p ys ∧ flatV y = true ∧ ys.all flatV = true ∧ Q (.int (ys.countP fun z => eqV z y : Nat)) H
theorem countP_rel {us : List Value} {ys : List V} {y : V} (rv : Vals ys us) (f : ys.all flatV = true) : us.countP (eqU y) = ys.countP fun z => eqV z y := by
  induction rv with
  | nil => rfl
  | cons r _ ih =>
    rw [List.all_cons, Bool.and_eq_true] at f
    rw [List.countP_cons, List.countP_cons, ih f.2, eqU_of r f.1]
theorem mt_countV {K : PySem.W.Frag} (hK : X.K = K) : MtR X "list.count" (rCntV K) := by
  subst hK
  intro pins s σ H x xs v us Q I rx rxs h
  obtain ⟨p, ys, y, rfl, rfl, hs, fy, fys, q⟩ := h
  cases rx
  cases rxs with
  | cons ry rt =>
    rename_i uy ut
    cases rt
    obtain ⟨its, rv, ⟨⟨cls, dd, data, sl⟩, n, ho, hc, hdn, hd⟩, hlen⟩ := I.list hs
    simp only at hc hd
    subst hc hd
    refine call_meets PySem.F.slot_list_count ⟨_, ho, rfl⟩ PySem.F.entry_list_count (PySem.F.args_list_count_2 _ _)
      (SeqAt.list_countAt p its.toArray n dd sl uy (eqU y)) ⟨ho, fun u' hu' => mem_eqAt ry fy rv fys u' (by simpa using hu'), ?_⟩
    have ec : its.toArray.toList.countP (eqU y) = ys.countP fun z => eqV z y := countP_rel rv fys
    refine ⟨.int (ys.countP fun z => eqV z y : Nat), H, I.tok _, ⟨s.toks, ?_⟩, q⟩
    show Value.int ((its.toArray.toList.countP (eqU y) : Nat) : Int) s.toks = Value.int ((ys.countP fun z => eqV z y : Nat) : Int) s.toks
    rw [ec]
theorem mt_indexK {K : PySem.W.Frag} (hK : X.K = K) : MtR X "list.index" (rIndex K) := by
  subst hK
  exact mt_index
theorem pe_bmK {K : PySem.W.Frag} (hK : X.K = K) {o e : Expr} {es : List Expr} {to : TE} {t : TA} {name : Str} {apos cpos : Pos} {T id : String} {r : V → List V → Hp → VK → Prop}
    (pa : PlainAttrs T) (slot : Slot T name id) (hty : typeOf (.builtin id) = pure (.type "method_descriptor")) (hm : MtR X id r) (ho : PE X o to) (ha : PA X (e :: es) t)
    (hbase : attributeBase o name X.env (eval o X.env) = eval o X.env := by rfl)
    (hfew : ((backTo cpos (starEach (e :: es) X.env)).all (fun x => !x.1) && (backToKw cpos (keywordEach [] X.env)).all (fun x => x.1.isSome)
      && decide ((e :: es).length + ([] : List Keyword).length + (if ([] : List Keyword).isEmpty then 0 else 1) < 30)) = true := by rfl)
    (hline : (apos.endLine == cpos.line) = true := by rfl) (hs : starEach (e :: es) X.env = (false, eval e X.env) :: starEach es X.env := by rfl) (hplain : (backTo cpos (starEach es X.env)).any (·.1) = false := by rfl) :
    PE X (.Call (.Attribute o name apos) (e :: es) [] cpos) (tBM K T r to t) := by
  subst hK
  exact pe_bm pa slot hty hm ho ha hbase hfew hline hs hplain
/-- a def that can be called here -/
def Callee (X : Cx) (CX : CXT) (k : Nat) (f : Addr) (sp : Sp) : Prop := ∃ (fd : FuncData) (ps : List Str), FnOk X.prog X.w X.K X.mg X.base CX k f fd ps sp ∧ PySem.W.keepIn X.K (.ref f) = true ∧ Binds X.K fd ps []
def tCallF (S : Addr → Sp → Prop) (E : L2.St → XK) (tf : TE) (t : TA) : TE := fun σ H Q => tf σ H fun v H1 => ∃ (f : Addr) (sp : Sp), v = .ref f ∧ S f sp ∧ t σ H1 fun vs H2 => sp vs H2 Q (E σ)
theorem pe_callF {CX : CXT} {k : Nat} {S : Addr → Sp → Prop} {E : L2.St → XK} {fv fs : Expr} {fp pos : Pos} {e : Expr} {es : List Expr} {tf : TE} {t : TA} (hS : ∀ f sp, S f sp → Callee X CX k f sp) (hr : Room k X.A) (hx : ∀ σ, PassesAt CX X σ (E σ))
    (hf : PE X (.Subscript fv fs fp) tf) (ha : PA X (e :: es) t) (he : starEach (e :: es) X.env = (false, eval e X.env) :: starEach es X.env := by rfl) (hpl : (backTo pos (starEach es X.env)).any (·.1) = false := by rfl) :
    PE X (.Call (.Subscript fv fs fp) (e :: es) [] pos) (tCallF S E tf t) := by
  refine ⟨fun pins s σ H Q I h => ?_⟩
  have arm : eval (.Call (.Subscript fv fs fp) (e :: es) [] pos) X.env = (do callWith pos (← eval (.Subscript fv fs fp) X.env) [] (backTo pos (starEach (e :: es) X.env)) (backToKw pos (keywordEach [] X.env))) := rfl
  rw [arm]
  refine wpAny_bind (thn (hf.run pins s σ H _ I h) fun u s1 ⟨v, H1, I1, r1, q1⟩ => ?_)
  obtain ⟨f, sp, rfl, hs, q1⟩ := q1
  cases r1
  obtain ⟨fd, ps, F, kp, hb⟩ := hS f sp hs
  refine PySem.W.callWith_K (h₀ := X.base) I1.ok.mod.kin kp (thn (ha.run pos pins s1 σ H1 _ I1 q1) fun us s2 ⟨vs, H2, I2, r, q2⟩ => ⟨I2.kIn, ?_⟩) he hpl
  exact run_fnSD F hr hb .nil (hx σ) I2 r (by rw [List.append_nil]; exact q2)
end
/-- [f(x) for x in ns if p(x)], where a turn changes nothing -/
theorem lc_filtL {K : PySem.W.Frag} {a : Addr} {ns : List Int} {g : TG} {tt : TT} {te : TE} {vs : List Nat} {σ : L2.St} {H1 : Hp} {D : Addr} {Qd : Hp → Prop} (p : Int → Bool) (f : Int → V) (hD : H1 D = none) (ha : SqL K H1 a (ns.map V.int)) (hn : ns.length ≤ 50000)
    (hs : ∀ (i : Nat) x H (T : V → Hp → Prop) (F : Hp → Prop), ns[i]? = some x → Same H1 H → (p x = true → T (f x) H) → (p x = false → F H) → g (.int x) (wipe σ vs) H fun σ2 H2 => wipe σ2 vs = wipe σ vs ∧ tt σ2 H2 fun b H3 => if b = true then te σ2 H3 T else F H3)
    (hd : ∀ H2, Same H1 H2 → H2 D = some (.lst ((ns.filter p).map f)) → Qd H2) :
    ∃ W : Nat → Nat → Hp → Prop, (∃ m, W 0 m (upd H1 D (.lst []))) ∧ ∀ i m H, W i m H →
      ((Itl K a).stop i H ∧ Qd H) ∨ ((Itl K a).go i H ∧ ∃ Nx : Hp → Prop, (∀ H', Nx H' → ∃ m', m' < m ∧ W (i + 1) m' H') ∧ ∀ x H', (Itl K a).yld i H x H' → g x (wipe σ vs) H' fun σ2 H2 => wipe σ2 vs = wipe σ vs ∧ tt σ2 H2 fun b H3 =>
        if b = true then te σ2 H3 fun y H4 => ∃ acc, H4 D = some (.lst acc) ∧ acc.length < sizeLine ∧ Nx (upd H4 D (.lst (acc ++ [y]))) else Nx H3) := by
  refine lc_list (xs := ns.map V.int) (fun i H' => Same H1 H' ∧ H' D = some (.lst (((ns.take i).filter p).map f))) ⟨same_new hD, upd_same⟩ (fun i H _ h => h.1.seq ha) (fun i x H hx h => ?_) (fun H h => hd H h.1 ?_)
  · obtain ⟨sm, hd1⟩ := h
    rw [List.getElem?_map] at hx
    obtain ⟨c, hc, rfl⟩ := Option.map_eq_some_iff.mp hx
    have hi : i < ns.length := (List.getElem?_eq_some_iff.mp hc).1
    have tk : (ns.take (i + 1)).filter p = (ns.take i).filter p ++ (if p c = true then [c] else []) := by
      rw [List.take_add_one, hc, Option.toList_some, List.filter_append]
      congr 1
      rw [List.filter_cons, List.filter_nil]
    refine hs i c H _ _ hc sm (fun e => ?_) (fun e => ?_)
    · refine ⟨_, hd1, size_lt ?_, same_keep sm hD, ?_⟩
      · rw [List.length_map]
        have := List.length_filter_le p (ns.take i)
        rw [List.length_take] at this
        omega
      · rw [upd_same, tk, if_pos e, List.map_append]
        rfl
    · refine ⟨sm, ?_⟩
      rw [tk, if_neg (by rw [e]; exact Bool.false_ne_true), List.append_nil]
      exact hd1
  · have := h.2
    rw [List.length_map, List.take_length] at this
    exact this
/-! ## layers of any sign that can be shown -/
def Lay.seen (L : Lay) : Prop := match L with
  | .pol ns => ns.length ≤ 60 ∧ ∀ x ∈ ns, x.natAbs < 10 ^ 24
  | .con w n => w.natAbs < 10 ^ 24 ∧ n.natAbs < 10 ^ 24
theorem Lay.nice.seen {L : Lay} (h : L.nice) : L.seen := by
  obtain ⟨h0, h1⟩ := h
  cases L with
  | pol ns => exact ⟨h1.1, fun x hx => by have := h1.2 x hx; omega⟩
  | con w n =>
    rw [Lay.ok_con, Bool.and_eq_true, decide_eq_true_eq, decide_eq_true_eq] at h0
    have h1 : w < 1000000000000 ∧ n < 1000000000000000000000 := h1
    exact ⟨by omega, by omega⟩
theorem Shw.layF {L : Lay} (h : L.seen) : Shw L.dat 4860 2 := by
  cases L with
  | pol ns =>
    obtain ⟨h1, h2⟩ : ns.length ≤ 60 ∧ ∀ x ∈ ns, x.natAbs < 10 ^ 24 := h
    exact (Shw.nums h2).mono (by omega) (Nat.le_refl _)
  | con w n =>
    obtain ⟨h1, h2⟩ : w.natAbs < 10 ^ 24 ∧ n.natAbs < 10 ^ 24 := h
    refine (Shw.tuple (ds := [.int w, .int n]) (W := 80) (D := 1) fun d hd => ?_).mono (by show 2 * 81 ≤ 4860; decide) (Nat.le_refl _)
    simp only [List.mem_cons, List.not_mem_nil, or_false] at hd
    rcases hd with rfl | rfl
    · exact Shw.int h1
    · exact Shw.int h2
theorem Shw.nestF {Ls : List Lay} {m : Nat} (h : ∀ L ∈ Ls, L.seen) (hl : Ls.length ≤ m) : Shw (.list (Ls.map Lay.dat)) (m * 4861) 3 := by
  refine (Shw.list (ds := Ls.map Lay.dat) (W := 4860) (D := 2) fun d hd => ?_).mono (by rw [List.length_map]; exact Nat.mul_le_mul_right _ hl) (Nat.le_refl _)
  obtain ⟨L, hL, rfl⟩ := List.mem_map.mp hd
  exact Shw.layF (h L hL)
/-- layers of which some have given way -/
theorem Lays.set {G : Hp} {us : List V} {Ls : List Lay} (h : Lays G us Ls) (j : Nat) {v : V} {L : Lay} (hv : LayAt G v L) : Lays G (us.set j v) (Ls.set j L) := by
  refine ⟨by rw [List.length_set, List.length_set, h.1], fun i u M a b => ?_⟩
  rw [List.getElem?_set] at a b
  by_cases c : j = i
  · rw [if_pos c] at a b
    split at a
    · split at b
      · cases a
        cases b
        exact hv
      · cases b
    · cases a
  · rw [if_neg c] at a b
    exact h.2 i u M a b
theorem Lays.cons {G : Hp} {v : V} {us : List V} {L : Lay} {Ls : List Lay} (hv : LayAt G v L) (h : Lays G us Ls) : Lays G (v :: us) (L :: Ls) := ⟨by rw [List.length_cons, List.length_cons, h.1], fun i u M a b => by
  cases i with
  | zero =>
    cases a
    cases b
    exact hv
  | succ i => exact h.2 i u M a b⟩
theorem int_eq {i j : Int} {A B : Prop} (h1 : i = j → A) (h2 : i ≠ j → B) : if decide (V.int i = V.int j) = true then A else B :=
  ite2 (fun e => h1 (by have := of_decide_eq_true e; injection this)) (fun e => h2 fun z => e (decide_eq_true (by rw [z])))
theorem int_ne {i j : Int} {A B : Prop} (h1 : i ≠ j → A) (h2 : i = j → B) : if (!decide (V.int i = V.int j)) = true then A else B := by
  by_cases e : i = j
  · rw [e, decide_eq_true rfl]
    exact iteF (h2 e)
  · rw [decide_eq_false fun z => e (by injection z)]
    exact iteT (h1 e)
theorem bl_ne {b c : Bool} {A B : Prop} (h : b ≠ c) (x : B) : if decide (V.bl b = V.bl c) = true then A else B := by
  rw [decide_eq_false fun z => h (by injection z)]
  exact iteF x
theorem badV_some {Ls : List Lay} {i : Nat} (h : badAt Ls = some i) : badV Ls = .int (i : Nat) := by
  unfold badV
  rw [h]
theorem badV_none {Ls : List Lay} (h : badAt Ls = none) : badV Ls = .non := by
  unfold badV
  rw [h]
theorem bad_split {Ls : List Lay} {A B : Prop} (h1 : ∀ i : Nat, badAt Ls = some i → A) (h2 : badAt Ls = none → B) : if (!decide (badV Ls = V.non)) = true then A else B := by
  cases e : badAt Ls with
  | none =>
    rw [badV_none e]
    exact iteF (h2 e)
  | some i =>
    rw [badV_some e]
    exact iteT (h1 i e)
theorem tup_ok (x : Str) (z : Int) (hx : PyData.strOk x = true) : (PyData.tuple [.str x, .int z]).canLay0 = true ∧ SeqAt.shaped (PyData.tuple [.str x, .int z]) = true := by
  have : (PyData.tuple [.str x, .int z]).canLay0 = true := by simp only [PyData.canLay0, PyData.canLayAll0, Bool.and_true, hx]
  refine ⟨this, ?_⟩
  unfold SeqAt.shaped
  rw [this, Bool.true_and]
  simp only [PyData.depth, PyData.depthAll]
  rfl
end Rn

set_option Elab.async false
set_option linter.all false
set_option maxRecDepth 100000
set_option maxHeartbeats 4000000
namespace Rn
open PySem PySem.Spec PyProof.Rows L2
/-! # a caught error that is kept behind its except suite -/
/-- the error object at a, its class cls, its dict d -/
def ErO (cls : Value) (d : Option Addr) (a : Addr) : HO := .ext fun h => ∃ (oe : Obj), h.get? a = some oe ∧ Zc cls d oe ∧ ∃ vs, oe.data = .fields vs
theorem erO_ok {P : Program} {w : World} {H : Hp} {h : Heap} {a : Addr} {cls : Value} {d : Option Addr} {oe : Obj} (e : h.get? a = some oe) (z : Zc cls d oe) (f : ∃ vs, oe.data = .fields vs) : ObjOk P w H h a (ErO cls d a) :=
  ⟨⟨oe, e, z, f⟩, ⟨oe, e⟩, fun _ _ ⟨o, q, r⟩ k => ⟨o, k o q, r⟩⟩
section
variable {X : Cx} {pins : List (Addr × Obj)} {σ : L2.St} {H : Hp} {s : Shared}
/-- an object that stands in the heap since the entry, seen by nobody, is written down -/
theorem inv_track {a : Addr} {φ : Heap → Prop} (I : Inv X pins σ H s) (n0 : X.s_0.heap.get? a = none) (na : H a = none) (nL : a ≠ X.env.locals) (nC : ∀ x c, X.env.cells.lookup x = some c → c ≠ a) (nP : ∀ p ∈ X.pn ++ pins, p.1 ≠ a)
    (new : ObjOk X.prog X.w (upd H a (.ext φ)) s.heap a (.ext φ)) : Inv X pins σ (upd H a (.ext φ)) s := by
  have oth : ∀ b o, H b = some o → b ≠ a := fun b o e z => by rw [z, na] at e; cases e
  have old : ∀ b o, X.s_0.heap.get? b = some o → b ≠ a := fun b o e z => by rw [z, n0] at e; cases e
  have un := I.base
  refine ⟨I.ok, I.os, I.bare, { un with free := fun b o e n hx => ?_, tups := fun b xs e => ?_, frzs := fun b o u e => ?_, tbls := fun b ps e => ?_ }, I.loc, I.cell, ?_, fun x c e => ?_, fun p hp => ?_, fun b u e => ?_, I.len⟩
  · rw [upd_ne (old b o e)]; exact un.free b o e n hx
  · have q := un.tups b xs e; rw [upd_ne (oth b _ q)]; exact q
  · have q := un.frzs b o u e; rw [upd_ne (oth b _ q)]; exact q
  · obtain ⟨m, q⟩ := un.tbls b ps e
    exact ⟨m, by rw [upd_ne (oth b _ q)]; exact q⟩
  · rw [upd_ne nL.symm]; exact I.free
  · rw [upd_ne (nC x c e)]; exact I.freeC x c e
  · obtain ⟨p1, p2, p3⟩ := I.pin p hp
    exact ⟨p1, by rw [upd_ne (nP p hp)]; exact p2, p3⟩
  · by_cases hb : b = a
    · subst hb
      rw [upd_same] at e
      cases e
      exact new
    · rw [upd_ne hb] at e
      exact (I.hok b u e).stay (fun c v _ q => q) (fun c q => by rw [upd_ne (oth c _ q)]; exact q) (fun c xs q => by rw [upd_ne (oth c _ q)]; exact q)
/-- what `except c as n` with a suite that runs through wishes: behind it the error is written down -/
def wKeep (K : PySem.W.Frag) (c : Value) (i : Nat) (ts : Addr → Value → Option Addr → TS) (D : Ends) : WX := fun cls d σ H => PySem.W.exmOne K cls c = some true ∧
  ∀ a, H a = none → ts a cls d { nx := fun σ' H' => D.nx (σ'.set i none) (upd H' a (ErO cls d a)), rt := fun _ _ => False, bk := fun _ _ => False, ct := fun _ _ => False } (σ.set i (some (.ref a))) H
/-- .. where the handlers stand -/
def onErr (X : Cx) (pins : List (Addr × Obj)) (D : Ends) (hd : ExceptHandler) : Value → Shared → Prop := fun e t1 => wpAny (model X.prog X.w) X.A (noteFrame e X.env)
  (fun _ t2 => wpAny (model X.prog X.w) X.A (setFlight e none) (fun _ t3 => wpAny (model X.prog X.w) X.A (handleBy e X.env [hd]) (SP X pins D) X.xe t3) X.xe t2) X.xe t1
variable {x n : Str} {c : Value} {i : Nat} {suite : List Stmt} {b₀ : Stmt} {np pos' : Pos} {ts : Addr → Value → Option Addr → TS} {D : Ends}
theorem keep_catch (ok : X.Ok) (hex : X.ex = []) (hs : X.stack = X.env :: X.outer) (hf : X.env.frame = some X.env.locals) (hN : X.N.Nodup) (hi : X.N[i]? = some n) (hln : X.env.kindOf n = some .local) (hc : Names X x c)
    (hsu : ∀ (a : Addr) (oe : Obj) (cls : Value) (d : Option Addr) (pn : List (Addr × Obj)), Zc cls d oe → (∃ vs, oe.data = .fields vs) → PSs (X.suite a ((a, oe) :: pn)) (b₀ :: suite) (ts a cls d)) {xe : Value → Shared → Prop} {u : Value} {s' : Shared}
    (xx : XE (X.tr (X.pn ++ pins) xe) (wKeep X.K c i ts D) u s') : onErr X pins D (.ExceptHandler (some (.Name x np)) (some n) (b₀ :: suite) pos') u s' := by
  obtain ⟨a, B, sI, qs, τ, G, cls, d, ue, J0, nb, up, sky, na, os, ag, hm, go⟩ := xx
  subst ue
  have J := J0.ofTry ok
  unfold onErr
  have fr : X.A.frames = some (X.env :: X.outer) := by rw [ok.frames, hs]
  have sky2 : Sky B (X.env :: X.outer) a (Zc cls d) X.env.locals s'.heap := hs ▸ sky
  refine Sky.land Zc.steady fr hf sky2 fun h3 fl up3 => ?_
  obtain ⟨o3, w3, g3, z3, f3⟩ := fl.there
  have noFrame : a ∉ frs (X.env :: X.outer) := fun hmem => by
    obtain ⟨_, o', g', nf⟩ := fl.2.2.1.mem hmem
    rw [g3] at g'
    cases g'
    exact nf _ f3
  have nL : a ≠ X.env.locals := fun z => noFrame (List.mem_filterMap.mpr ⟨X.env, .head _, by rw [hf, z]⟩)
  have nF : a ∉ X.fs := fun hmem => by
    obtain ⟨e, he, q⟩ := List.mem_filterMap.mp hmem
    exact noFrame (List.mem_filterMap.mpr ⟨e, .tail _ he, q⟩)
  -- it was not there ahead
  have nI : sI.heap.get? a = none := by
    cases e : sI.heap.get? a with
    | none => rfl
    | some o => have := nb a o e (by show a ∉ frs X.stack; rw [hs]; exact noFrame); rw [fl.2.1] at this; cases this
  have n0 : X.s_0.heap.get? a = none := by
    cases e : X.s_0.heap.get? a with
    | none => rfl
    | some o =>
      obtain ⟨o', q⟩ := J.base.there a o e (by rw [hex]; exact fun z => nomatch z)
      rw [nI] at q
      cases q
  have nC : ∀ y k, X.env.cells.lookup y = some k → k ≠ a := fun y k e z => by
    obtain ⟨v, o, ho, _⟩ := J.cell y k e
    rw [z, nI] at ho
    cases ho
  have nP : ∀ p ∈ X.pn ++ pins, p.1 ≠ a := fun p hp z => by
    have := (J.pin p hp).1
    rw [z, nI] at this
    cases this
  have J3 : Inv X pins τ G { s' with heap := h3 } := J.landed nb fl.1 (up.trans up3) os ag
  have S3 := J3.suite g3 f3 na nL nF
  refine wpAny_handleBy_cons (codeAny_handlers_test ?_) (by intro q; cases q)
  have lt : PySem.W.Looks (model X.prog X.w) h3 (typeOf (.ref a)) cls := fun A Q E s k q => wpAny_typeOf_ref (k _ _ g3) (z3.1.symm ▸ q)
  have lm := PySem.W.exm_one (M := model X.prog X.w) J3.kIn lt hm
  have reads : ∀ {Q : Value → Shared → Prop} {E : Value → Shared → Prop}, Q c { s' with heap := h3 } → wpAny (model X.prog X.w) (X.A.mark (some (.ref a))) (eval (.Name x np) X.env) Q E { s' with heap := h3 } := fun {Q E} q => by
    obtain ⟨h1, h2, h4 | ⟨h4, h5, h6⟩⟩ := hc
    · exact ld_glob (X := X.suite a ((a, o3) :: (X.pn ++ pins))) S3 h1 h4 q h2
    · exact ld_blt (X := X.suite a ((a, o3) :: (X.pn ++ pins))) S3 h1 h4 h5 q h6 h2
  refine reads (lm.here (codeAny_handlers_suite_as (HandSPX.lands_againZ fl fun h4 fl4 up4 => ?_)))
  have J4 : Inv X pins τ G { s' with heap := h4 } := J.landed nb fl4.1 ((up.trans up3).trans up4) os ag
  obtain ⟨o4, w4, g4, z4, f4⟩ := fl4.there
  have S4 := J4.suite g4 f4 na nL nF
  refine store_ok (X := X.suite a ((a, o4) :: (X.pn ++ pins))) (v := .ref a) S4 hN hi (.inl hln) rfl (fun s5 S5 => ?_) (.inr hln)
  refine wpAny_mono ((hsu a o4 cls d (X.pn ++ pins) z4 ⟨_, f4⟩).run [] s5 _ G _ S5 (go a na)) (fun fl6 s6 r6 => ?_) (fun _ _ z => z.elim)
  cases fl6 with
  | next =>
    obtain ⟨τ6, G6, S6, q6⟩ := r6
    obtain ⟨pa, pn6, _⟩ := S6.pin (a, o4) (List.mem_append_left _ (.head _))
    have T6 := inv_track (S6.unsuite ok) n0 pn6 nL nC nP (erO_ok (P := X.prog) (w := X.w) (H := upd G6 a (ErO cls d a)) pa z4 ⟨_, f4⟩)
    exact gone_ok T6 hN hi hln fun s7 J7 => ⟨_, _, J7, q6⟩
  | brk => obtain ⟨_, _, _, q6⟩ := r6; exact q6.elim
  | cont => obtain ⟨_, _, _, q6⟩ := r6; exact q6.elim
  | ret v => obtain ⟨_, _, _, _, _, q6⟩ := r6; exact q6.elim
theorem ps_try_keep {body : List Stmt} {pos : Pos} {tb : WX → TS} (hex : X.ex = []) (hs : X.stack = X.env :: X.outer) (hf : X.env.frame = some X.env.locals) (hN : X.N.Nodup) (hi : X.N[i]? = some n) (hln : X.env.kindOf n = some .local) (hc : Names X x c)
    (hb : ∀ (W : WX) (pn : List (Addr × Obj)) (xe : Value → Shared → Prop), Takes (X.tr pn xe) W → PassesOwn (model X.prog X.w) X.A X.env xe → PSs (X.tr pn xe) body (tb W))
    (hsu : ∀ (a : Addr) (oe : Obj) (cls : Value) (d : Option Addr) (pn : List (Addr × Obj)), Zc cls d oe → (∃ vs, oe.data = .fields vs) → PSs (X.suite a ((a, oe) :: pn)) (b₀ :: suite) (ts a cls d)) :
    PS X (.Try body [.ExceptHandler (some (.Name x np)) (some n) (b₀ :: suite) pos'] [] [] pos) (fun D σ H => tb (wKeep X.K c i ts D) D σ H) := by
  refine ⟨fun pins s σ H D I h => wpAny_Try_except ?_⟩
  have run := (hb (wKeep X.K c i ts D) (X.pn ++ pins) (onErr X pins D (.ExceptHandler (some (.Name x np)) (some n) (b₀ :: suite) pos')) (fun u s' xx => keep_catch I.ok hex hs hf hN hi hln hc hsu xx) PassesOwn.looking).run [] s σ H D (I.toTry _) h
  refine wpAny_mono run (fun f s1 r => ?_) (fun e s1 he => he)
  cases f with
  | next => obtain ⟨σ1, H1, J1, q⟩ := r; exact wpAny_execs_nil ⟨σ1, H1, J1.ofTry I.ok, q⟩
  | brk => obtain ⟨σ1, H1, J1, q⟩ := r; exact ⟨σ1, H1, J1.ofTry I.ok, q⟩
  | cont => obtain ⟨σ1, H1, J1, q⟩ := r; exact ⟨σ1, H1, J1.ofTry I.ok, q⟩
  | ret u => obtain ⟨v, σ1, H1, J1, rv, q⟩ := r; exact ⟨v, σ1, H1, J1.ofTry I.ok, rv, q⟩
end
/-! ## what is asked of a kept error -/
def IsErrT (K : PySem.W.Frag) (D a : Addr) (v : V) (H : Hp) : Prop := ExcC K D ∧ ∃ dd, H a = some (ErO (.ref D) (some dd) a) ∧ H dd = some (.xd [(("value" : Str), v)])
theorem IsErrT.same {K : PySem.W.Frag} {D a : Addr} {v : V} {H H' : Hp} (h : IsErrT K D a v H) (s : Same H H') : IsErrT K D a v H' := by
  obtain ⟨c, dd, h1, h2⟩ := h
  exact ⟨c, dd, s _ _ h1, s _ _ h2⟩
section
variable {X : Cx} {pins : List (Addr × Obj)} {σ : L2.St} {H : Hp} {s : Shared}
theorem errT_inst {D a : Addr} {v : V} (I : Inv X pins σ H s) (h : IsErrT X.K D a v H) : ∃ oe od dd, PySem.W.InstAt s.heap a oe D (some od) ∧ H dd = some (.xd [(("value" : Str), v)]) ∧ oe.dict = some dd ∧ s.heap.get? dd = some od := by
  obtain ⟨_, dd, ha, hd⟩ := h
  have x1 : ObjOk X.prog X.w H s.heap a (ErO (.ref D) (some dd) a) := I.hok a _ ha
  obtain ⟨⟨oe, h1, hz, vs, hf⟩, _⟩ := x1
  have x2 : ObjOk X.prog X.w H s.heap dd (.xd [(("value" : Str), v)]) := I.hok dd _ hd
  obtain ⟨mA, hns, _⟩ := x2
  obtain ⟨od, ho, _⟩ := lookIn_ns hns
  obtain ⟨z1, z2⟩ := hz
  exact ⟨oe, od, dd, ⟨h1, z1, by unfold PySem.W.notCls; rw [hf] <;> rfl, by rw [z2]; exact ho⟩, hd, z2, ho⟩
def rIsT (K : PySem.W.Frag) : List V → Hp → VK → Prop := fun xs H Q => ∃ (a D : Addr) (v c : V) (cv : Value) (b : Bool), xs = [.ref a, c] ∧ IsErrT K D a v H ∧ ClsV c cv ∧ PySem.W.kitOne K (.ref D) cv = some b ∧ Q (.bl b) H
theorem call_isT : CallR X (.builtin "isinstance") (rIsT X.K) := by
  intro pins s σ H xs us Q I r h
  obtain ⟨a, D, v, c, cv, b, rfl, he, hcv, e, q⟩ := h
  obtain ⟨u1, u2, rfl, r1, r2⟩ := vals2 r
  cases (show u1 = Value.ref a from r1)
  have e2 := hcv.eq r2
  subst e2
  obtain ⟨oe, od, dd, J, _⟩ := errT_inst I he
  exact PySem.W.kia_one (kit_err he.1) I.kIn J e (fun z => nomatch z) fun tk => ⟨.bl b, H, I.kept (t' := tk) fun _ _ z => z, rfl, q⟩
def rIsTT (K : PySem.W.Frag) : List V → Hp → VK → Prop := fun xs H Q => ∃ (a D tp : Addr) (v : V) (cs : List V) (ws : List Value) (b : Bool), xs = [.ref a, .ref tp] ∧ IsErrT K D a v H ∧ H tp = some (.tup cs) ∧ Paired ClsV cs ws ∧ PySem.W.kitAny K (.ref D) ws = some b ∧ Q (.bl b) H
theorem call_isTT : CallR X (.builtin "isinstance") (rIsTT X.K) := by
  intro pins s σ H xs us Q I r h
  obtain ⟨a, D, tp, v, cs, ws, b, rfl, he, hT, k, e, q⟩ := h
  obtain ⟨u1, u2, rfl, r1, r2⟩ := vals2 r
  cases (show u1 = Value.ref a from r1)
  cases (show u2 = Value.ref tp from r2)
  obtain ⟨oe, od0, dd, J, _⟩ := errT_inst I he
  obtain ⟨_, its, rv, o, h1, h2, n, h3⟩ := (show ObjOk X.prog X.w H s.heap tp (.tup cs) from I.hok tp _ hT)
  have e3 := ClsV.all k rv
  subst e3
  obtain ⟨oc, od', dt, sl⟩ := o
  simp only at h2 h3
  subst h2 h3
  exact PySem.W.kia_tup (kit_err he.1) I.kIn J h1 e (fun z => nomatch z) fun tk => ⟨.bl b, H, I.kept (t' := tk) fun _ _ z => z, rfl, q⟩
/-- e.value of a kept error -/
def tValOfT (P : Program) (K : PySem.W.Frag) (mg : Str → Option Value) (te : TE) : TE := fun σ H Q => te σ H fun x H1 => ∃ (a : Addr) (xn : Str) (C fI : Addr) (v : V), x = .ref a ∧ PySem.VeX.VeTxt P K mg xn C fI ∧ IsErrT K C a v H1 ∧ Q v H1
theorem pe_valOfT {e : Expr} {te : TE} {pos : Pos} (he : PE X e te) (hb : attributeBase e "value" X.env (eval e X.env) = eval e X.env := by rfl) : PE X (.Attribute e "value" pos) (tValOfT X.prog X.K X.mg te) := by
  refine ⟨fun pins s σ H Q I h => attr_of hb (thn (he.run pins s σ H _ I h) fun u s1 hh => ?_)⟩
  obtain ⟨x, H1, I1, rx, a, xn, C, fI, v, ex, T, ie, q⟩ := hh
  subst ex
  obtain rfl : u = Value.ref a := rx
  obtain ⟨oe, od, dd, J, hd, _, ho⟩ := errT_inst I1 ie
  have x2 : ObjOk X.prog X.w H1 s1.heap dd (.xd [(("value" : Str), v)]) := I1.hok dd _ hd
  obtain ⟨mA, hns, hr⟩ := x2
  obtain ⟨od2, ho2, hl⟩ := lookIn_ns hns
  rw [ho] at ho2
  cases ho2
  have l : List.lookup ("value" : Str) [(("value" : Str), v)] = some v := by simp [List.lookup]
  obtain ⟨w, hu, ru⟩ := RelO.some_of (v := v) (o := mA "value") (by rw [← l]; exact hr "value")
  exact HandSPX.exc_get I1.kIn J T.ga T.gg T.exC (PySem.W.findObj_own T.hdC T.noN rfl (by rw [hl, hu])) (handed_of ru) ⟨v, H1, I1.tok _, ru, q⟩
end
/-! ## making and asking an instance where what is raised is wished for at the caller's slots -/
section
variable {X : Cx} {CX : CXT} {k : Nat} {f C : Addr} {fd : FuncData} {ps : List Str} {sp : Sp} {dvs : List V} {ds : List Value} {E : L2.St → XK} {x m : Str} {p pos apos : Pos} {e o : Expr} {es : List Expr} {ta : TE} {t : TA}
theorem run_makeS {pins : List (Addr × Obj)} {σ : L2.St} {H : Hp} {s : Shared} {Q : VK} {us : List Value} {vs : List V} (M : Mk X.K C f) (F : FnOk X.prog X.w X.K X.mg X.base CX k f fd ps sp) (hr : Room (k + 1) X.A) (hb : Binds X.K fd ps ds) (hd : Vals dvs ds) (hx : PassesAt CX X σ (E σ)) (I : Inv X pins σ H s) (r : Vals vs us)
    (h : ∀ x dx, H x = none → H dx = none → dx ≠ x → sp (.ref x :: (vs ++ dvs)) (upd (upd H dx (.own x)) x (.ins C dx [])) (fun v H2 => v = .non ∧ Q (.ref x) H2) (E σ)) : wpAny (model X.prog X.w) X.A (call (.ref C) us) (EP X pins σ Q) X.xe s := by
  generalize hn : s.heap.objs.size = n at *
  have f0 : H n = none := I.hok.fresh (Nat.le_of_eq hn)
  have f1 : H (n + 1) = none := I.hok.fresh (Nat.le_trans (Nat.le_of_eq hn) (Nat.le_succ n))
  have go := h (n + 1) n f1 f0 (Nat.ne_of_lt (Nat.lt_succ_self n))
  subst hn
  have J := Inv.made (C := C) I
  have rr : Vals (V.ref (s.heap.objs.size + 1) :: (vs ++ dvs)) (Value.ref (s.heap.objs.size + 1) :: (us ++ ds)) := .cons rfl (r.append hd)
  have ln : (Value.ref (s.heap.objs.size + 1) :: us ++ ds).length = ps.length := (rr.length.symm.trans (F.len _ _ _ _ go) : _)
  have body := F.run _ X.stack _ _ ⟨Value.ref (s.heap.objs.size + 1) :: us, []⟩ (Value.ref (s.heap.objs.size + 1) :: (us ++ ds)) _ _ (E σ) (hr.make C us []) (J.env0.make C us []) (hb _ (Value.ref (s.heap.objs.size + 1) :: us) J.kIn ln) rr go
  refine wpAny_call (make_map (f := f) I.kIn M.makes M.init (beq_iff_eq.mp M.fn) (codeAny_mono body fun res s' hres => ?_))
  match res, hres with
  | .error z, hres => exact hx pins _ _ z s' J hres
  | .ok (.ret u), hres =>
    obtain ⟨v, H', I3, rv, ev, q3⟩ := J.after hres
    subst ev
    exact ⟨rv, ⟨V.ref (s.heap.objs.size + 1), H', I3, rfl, q3⟩⟩
  | .ok .next, hres => exact hres.elim
  | .ok .brk, hres => exact hres.elim
  | .ok .cont, hres => exact hres.elim
def tMakeS (C : Addr) (sp : Sp) (dvs : List V) (E : L2.St → XK) (t : TA) : TE := fun σ H Q => t σ H fun vs H1 => ∀ x dx, H1 x = none → H1 dx = none → dx ≠ x → sp (.ref x :: (vs ++ dvs)) (upd (upd H1 dx (.own x)) x (.ins C dx [])) (fun v H2 => v = .non ∧ Q (.ref x) H2) (E σ)
theorem pe_makeS (M : Mk X.K C f) (F : FnOk X.prog X.w X.K X.mg X.base CX k f fd ps sp) (hr : Room (k + 1) X.A) (hg : Gl X x) (hm : X.mg x = some (.ref C)) (hb : Binds X.K fd ps ds) (hd : Vals dvs ds) (hx : ∀ σ, PassesAt CX X σ (E σ)) (ha : PA X (e :: es) t)
    (hdb : (x == ("__debug__" : Str)) = false := by decide) (hse : starEach (e :: es) X.env = (false, eval e X.env) :: starEach es X.env := by rfl) (hpn : (backTo pos (starEach es X.env)).any (·.1) = false := by rfl) :
    PE X (.Call (.Name x p) (e :: es) [] pos) (tMakeS C sp dvs E t) :=
  ⟨fun pins s σ H Q I h => wpAny_Call_Name_kw (ld_glob I hg hm (PySem.W.callWith_K (h₀ := X.base) I.ok.mod.kin M.kp (thn (ha.run pos pins s σ H _ I h) fun _ _ ⟨_, _, I1, r, q⟩ => ⟨I1.kIn, run_makeS M F hr hb hd (hx σ) I1 r q⟩) hse hpn) hdb)⟩
def tMethS' (C : Addr) (m : Str) (sp : Sp) (dvs : List V) (E : L2.St → XK) (ta : TE) (t : TA) : TE := fun σ H Q => ta σ H fun x H1 => ∃ a dx fs, x = .ref a ∧ H1 a = some (.ins C dx fs) ∧ fs.lookup m = none ∧ t σ H1 fun vs H2 => sp (.ref a :: (vs ++ dvs)) H2 Q (E σ)
theorem pe_methS {pl : Sem Bool} (he : PE X o ta) (c : Cls X.K C) (hm : Meth X.K C m f) (F : FnOk X.prog X.w X.K X.mg X.base CX k f fd ps sp) (hr : Room k X.A) (hb : Binds X.K fd ps ds) (hd : Vals dvs ds) (hx : ∀ σ, PassesAt CX X σ (E σ)) (ha : PA X (e :: es) t)
    (hse : starEach (e :: es) X.env = (false, eval e X.env) :: starEach es X.env := by rfl) (hpn : (backTo pos (starEach es X.env)).any (·.1) = false := by rfl)
    (ht : eval (.Call (.Attribute o m apos) (e :: es) [] pos) X.env = (do let ov ← eval o X.env; standAt apos.atName; let (f, first) ← holding [ov] (getMethod ov m pl); callWith pos f first (backTo pos (starEach (e :: es) X.env)) (backToKw pos (keywordEach [] X.env))) := by rfl) :
    PE X (.Call (.Attribute o m apos) (e :: es) [] pos) (tMethS' C m sp dvs E ta t) := by
  refine ⟨fun pins s σ H Q I h => PySem.W.methodCall_KW (pl := pl) (thn (he.run pins s σ H _ I h) fun u s1 ⟨x, H1, I1, rx, a, dx, fs, ex, ea, l, q⟩ => ?_) ht⟩
  subst ex
  obtain rfl : u = Value.ref a := rx
  exact getmeth_ok I1 ea c hm l (PySem.W.callWith_K (first := [.ref a]) (h₀ := X.base) I.ok.mod.kin hm.kp (thn (ha.run pos pins s1 σ H1 _ I1 q) fun us s2 ⟨vs, H2, I2, r, q2⟩ => ⟨I2.kIn, run_fnSD (us := .ref a :: us) (vs := .ref a :: vs) F hr hb hd (hx σ) I2 (.cons rfl r) q2⟩) hse hpn)
theorem pe_methS0 {pl : Sem Bool} (he : PE X o ta) (c : Cls X.K C) (hm : Meth X.K C m f) (F : FnOk X.prog X.w X.K X.mg X.base CX k f fd ps sp) (hr : Room k X.A) (hb : Binds X.K fd ps ds) (hd : Vals dvs ds) (hx : ∀ σ, PassesAt CX X σ (E σ))
    (ht : eval (.Call (.Attribute o m apos) [] [] pos) X.env = (do let ov ← eval o X.env; standAt apos.atName; let (f, first) ← holding [ov] (getMethod ov m pl); callWith pos f first (backTo pos (starEach [] X.env)) (backToKw pos (keywordEach [] X.env))) := by rfl) :
    PE X (.Call (.Attribute o m apos) [] [] pos) (tMethS' C m sp dvs E ta tNil) := by
  refine ⟨fun pins s σ H Q I h => PySem.W.methodCall_KW (pl := pl) (thn (he.run pins s σ H _ I h) fun u s1 ⟨x, H1, I1, rx, a, dx, fs, ex, ea, l, q⟩ => ?_) ht⟩
  subst ex
  obtain rfl : u = Value.ref a := rx
  exact getmeth_ok I1 ea c hm l (PySem.W.callWith_K0 (first := [.ref a]) I1.kIn hm.kp (run_fnSD (us := [.ref a]) (vs := [.ref a]) F hr hb hd (hx σ) I1 (.cons rfl .nil) q))
end
end Rn

set_option Elab.async false
set_option linter.all false
set_option maxRecDepth 100000
set_option maxHeartbeats 4000000
/-! # own errors: made by keyword, as values, caught and handed on -/
namespace PySem
namespace VeX
open PySem.W PySem.Calls PyProof.Rows PySem.HandSPX
section
variable {prog : Program} {w : World} {M : Model} {A : Around} {E : Value → Shared → Prop} {R : Result → Shared → Prop} {hp : Heap} {gs : Array GenState} {dr : Drawn} {tk : Nat} {os : OsState}
variable {nm q : Str} {C N : Addr} {bs bm bmB : List Value} {hdct : Bool} {sn : List Str} {sub : List Value} {ab : Bool} {col : Option Bool} {dd : Option Addr} {k0 k1 k2 k3 k5 : Option Value} {B newId initId : String} {kw : List (Str × Value)} {rest : List Value}
theorem kw_check (F : ExcBaseFacts B newId initId bmB) (hT : ∀ X : String, bm.contains (.type X) = bmB.contains (.type X)) {Q : Unit → Shared → Prop}
    (hC : hp.get? C = some (excClassObj nm q C N bs bm hdct sn sub ab col dd k0 k1 k2 k3 k5 newId)) (fin : Q () ⟨hp, gs, dr, tk, os⟩) : wpAny M A (checkBuiltinCall newId ⟨.ref C :: rest, kw⟩) Q E ⟨hp, gs, dr, tk, os⟩ := by
  have in_B : (Value.ref C :: bm).contains (.type B) = true := by rw [List.contains_cons, hT, F.hasB, Bool.or_true]
  have _ := F.noStar
  simp only [checkBuiltinCall, F.newSplit, F.newRow, F.newKind]
  repeat (first | (refine wpAny_isSubtype_exc hC ?_; rw [in_B]) | refine wpAny_loadPart_at hC ?_ | refine wpAny_madeBy_exc hC ?_ | refine wpAny_staticBase_exc hC ?_ | simp only [bne_self_eq_false, Bool.false_eq_true, if_false] | wp_step)
  exact fin
theorem kw_new (F : ExcBaseFacts B newId initId bmB) (hT : ∀ X : String, bm.contains (.type X) = bmB.contains (.type X))
    (hC : hp.get? C = some (excClassObj nm q C N bs bm hdct sn sub ab col dd k0 k1 k2 k3 k5 newId)) (few : rest.length ≤ sizeLine)
    (fin : R (.ok (.ret (.ref (hp.objs.size + 1)))) ⟨(hp.push (kdv_tup rest)).push (excO C hp.objs.size), gs, dr, tk, os⟩) : codeAny (model prog w) A (.builtin newId ⟨.ref C :: rest, kw⟩) R ⟨hp, gs, dr, tk, os⟩ := by
  have _ := F.ends
  have in_B : (Value.ref C :: bm).contains (.type B) = true := by rw [List.contains_cons, hT, F.hasB, Bool.or_true]
  have in_A : (Value.ref C :: bm).contains (.type "AttributeError") = false := by rw [List.contains_cons, hT, F.noAttr]; rfl
  have in_N : (Value.ref C :: bm).contains (.type "NameError") = false := by rw [List.contains_cons, hT, F.noName]; rfl
  refine codeAny_builtinAt F.entry ?_
  unfold Builtin.«BaseException.__new__»
  refine wpAt_bind ?_
  show wpAt _ _ _ (stack >>= _) _ _ _
  refine wpAt_bind (wpAt_stack fun _ _ => wpAt_of_wpAny ?_)
  wp_walk
  refine wpAt_of_wpAny ?_
  rw [F.owner]
  repeat (first | (with_reducible refine wpAny_isSubtype_exc hC ?_; first | rw [in_B] | rw [in_A] | rw [in_N]) | with_reducible refine wpAny_loadPart_at hC ?_ | with_reducible refine wpAny_madeHere_exc F.canon hC ?_ | wp_step)
  show R _ _
  rw [Heap.size_push]
  exact fin
theorem kw_type (F : ExcBaseFacts B newId initId bmB) (hT : ∀ X : String, bm.contains (.type X) = bmB.contains (.type X)) {fI : Addr} {Q : Fin → Shared → Prop}
    (hC : hp.get? C = some (excClassObj nm q C N bs bm hdct sn sub ab col dd k0 k1 k2 k3 k5 newId)) (few : rest.length ≤ sizeLine)
    (init : Looks (model prog w) hp (typeLookup (.ref C) "__init__") (some (.ref fI))) (bound : ∀ self, Looks (model prog w) hp (bindSpecial (.ref fI) self) (.ref fI, [self]))
    (fin : codeAny (model prog w) A (.call (.ref fI) ⟨.ref (hp.objs.size + 1) :: rest, kw⟩)
      (fun r s' => match r with | .ok (.ret v) => v = .none ∧ Q (.done (.ret (.ref (hp.objs.size + 1)))) s' | .ok _ => False | .error e => E e s') ⟨(hp.push (kdv_tup rest)).push (excO C hp.objs.size), gs, dr, tk, os⟩) :
    wpAny (model prog w) A (Builtin.«type.__call__» ⟨.ref C :: rest, kw⟩) Q E ⟨hp, gs, dr, tk, os⟩ := by
  repeat (first | with_reducible refine wpAny_madeBy_exc hC ?_ | with_reducible refine wpAny_loadPart_at hC ?_ | wp_step)
  refine codeAny_call_builtin_code (Code.quiet_builtin _ F.quiet) (kw_check F hT hC (kw_new F hT hC few ?_))
  show wpAny _ _ _ _ _ _
  have up : ∀ b o, hp.get? b = some o → ((hp.push (kdv_tup rest)).push (excO C hp.objs.size)).get? b = some o := fun b o e => Heap.get?_push_of_some _ (Heap.get?_push_of_some _ e)
  have hC1 := up _ _ hC
  have he : ((hp.push (kdv_tup rest)).push (excO C hp.objs.size)).get? (hp.objs.size + 1) = some (excO C hp.objs.size) := by heap_get
  have self : (Value.ref C :: bm).contains (.ref C) = true := by simp
  unfold isInstance
  repeat (first | (with_reducible refine wpAny_isSubtype_exc hC1 ?_; rw [self]) | with_reducible refine wpAny_loadPart_at he ?_ | wp_step)
  show wpAny _ _ (typeLookup (.ref C) _) _ _ _
  refine (init.keeps up).at (wpAny_holding (wpAny_bind (((bound (.ref (hp.objs.size + 1))).keeps up).at (wpAny_bind (wpAny_call (codeAny_mono fin fun r s' z => ?_))))))
  rcases r with e | (v | _ | _ | _) <;> first | exact z | exact z.elim | skip
  obtain ⟨rfl, z⟩ := z
  first
    | (wp_walk; exact z)
    | exact wpAny_pure (wpAny_pure z)
theorem kw_typeCheck {Q : Unit → Shared → Prop} (hC : hp.get? C = some (excClassObj nm q C N bs bm hdct sn sub ab col dd k0 k1 k2 k3 k5 newId)) (fin : Q () ⟨hp, gs, dr, tk, os⟩) :
    wpAny M A (checkBuiltinCall "type.__call__" ⟨.ref C :: rest, kw⟩) Q E ⟨hp, gs, dr, tk, os⟩ := by
  have _ := tc_sub
  have _ : (⟨hp, gs, dr, tk, os⟩ : Shared).TypeIs (.ref C) "type" := ⟨_, hC, rfl⟩
  simp only [checkBuiltinCall, tc_split, tc_kind]
  repeat (any_goals (first | assumption | with_reducible refine wpAny_map ?_ | with_reducible refine wpAny_onRaise ?_ | with_reducible refine wpAny_loadPart_at hC ?_ | wp_step))
theorem kw_call (F : ExcBaseFacts B newId initId bmB) (hT : ∀ X : String, bm.contains (.type X) = bmB.contains (.type X)) {fI : Addr}
    (hC : hp.get? C = some (excClassObj nm q C N bs bm hdct sn sub ab col dd k0 k1 k2 k3 k5 newId)) (few : rest.length ≤ sizeLine)
    (init : Looks (model prog w) hp (typeLookup (.ref C) "__init__") (some (.ref fI))) (bound : ∀ self, Looks (model prog w) hp (bindSpecial (.ref fI) self) (.ref fI, [self]))
    (fin : codeAny (model prog w) (A.under (.builtin "type.__call__" ⟨.ref C :: rest, kw⟩)) (.call (.ref fI) ⟨.ref (hp.objs.size + 1) :: rest, kw⟩) (InitBack (hp.objs.size + 1) R) ⟨(hp.push (kdv_tup rest)).push (excO C hp.objs.size), gs, dr, tk, os⟩) :
    codeAny (model prog w) A (.call (.ref C) ⟨rest, kw⟩) R ⟨hp, gs, dr, tk, os⟩ := by
  have _ := tc_lookup
  have _ := tc_bind (.ref C)
  have _ : (⟨hp, gs, dr, tk, os⟩ : Shared).TypeIs (.ref C) "type" := ⟨_, hC, rfl⟩
  refine codeAny_of_tree ?_
  show wpAny _ _ (callAny (.ref C) _) _ _ _
  repeat (any_goals (first | assumption | with_reducible refine wpAny_loadPart_at hC ?_ | wp_step))
  refine ⟨rfl, codeAny_call_builtin_at (Code.quiet_builtin _ (by decide +kernel)) entry_typeCall (kw_typeCheck hC (kw_type F hT hC few init bound (codeAny_mono fin fun r s' z => ?_)))⟩
  rcases r with e | (v | _ | _ | _) <;> exact z
end
section
variable {prog : Program} {w : World} {A : Around} {R : Result → Shared → Prop} {s : Shared} {K : Frag} {mg mb : Str → Option Value} {xn : Str} {C fI : Addr}
/-- the class called with its value by name -/
theorem ve_madeK (T : VeTxt prog K mg xn C fI) {v : Value} (X : K.In s.heap) (hg : s.heap.Ns mainGlobals mg) (hb : s.heap.Ns builtinsNs mb) (hbo : mb "super" = some (.type "super")) (hlim : s.heap.NoLimit) (hroom : A.depth + 1 < recursionLimit)
    (hq : ∀ h' tk e d, OwnMade s.heap h' e C d v → R (.ok (.ret (.ref e))) { s with heap := h', toks := tk }) : codeAny (model prog w) A (.call (.ref C) ⟨[], [("value", v)]⟩) R s := by
  obtain ⟨nm, q, N, bs, bm, sn, sub, ab, col, dd, k0, k1, k2, k3, k5, hC, hbm⟩ := T.cls
  obtain ⟨hp, g, dr, tk, os⟩ := s
  have up : ∀ b o, hp.get? b = some o → ((hp.push (kdv_tup [])).push (excO C hp.objs.size)).get? b = some o := fun b o e => Heap.get?_push_of_some _ (Heap.get?_push_of_some _ e)
  have he : ((hp.push (kdv_tup [])).push (excO C hp.objs.size)).get? (hp.objs.size + 1) = some (excO C hp.objs.size) := by heap_get
  have free : K.lookup (hp.objs.size + 1) = none := by
    rcases e : K.lookup (hp.objs.size + 1) with _ | o
    · rfl
    · exact absurd (Nat.lt_of_succ_lt (Heap.lt_size (show hp.get? (hp.objs.size + 1) = some o from X _ _ e))) (Nat.lt_irrefl _)
  refine kw_call F.excBase_ValueError (fun X => refsVE_contains X bm hbm) (X _ _ hC) (Nat.zero_le _) (looks_findIn X T.iC) (fun self => bind_fn X self T.tC) ?_
  refine ve_init (s := ⟨(hp.push (kdv_tup [])).push (excO C hp.objs.size), g, dr, tk, os⟩) T (.inr rfl) (X.keeps up) (hg.keeps up) (hb.keeps up) hbo (hlim.keeps up) he free (show A.depth + 1 < recursionLimit from hroom) fun h' tk' dx t1 ⟨k', hx, dn, dne, hns⟩ => ?_
  have big : hp.objs.size + 1 + 1 ≤ dx := by
    first
      | exact dn
      | (simpa only [Heap.size_push] using dn)
      | (have z := dn; rw [Heap.size_push, Heap.size_push] at z; exact z)
  exact ⟨rfl, hq h' tk' (hp.objs.size + 1) dx ⟨fun b o e => k' b o (Nat.ne_of_lt (Nat.lt_succ_of_lt (Heap.lt_size e))) (up b o e), Nat.le_succ _, ⟨_, _, hx, rfl, rfl, rfl, rfl, rfl⟩, (by show hp.objs.size ≤ dx; omega), dne, hns⟩⟩
end
end VeX
end PySem
namespace Rn
open PySem PySem.Spec PyProof.Rows L2
section
variable {X : Cx} {C fI : Addr} {xn : Str}
/-- what the class has made, as an exception in hand -/
theorem own_mk {pins : List (Addr × Obj)} {σ : L2.St} {H1 : Hp} {Q : XK} {v : V} {v' : Value} {s1 : Shared} {h' : Heap} {tk' : Nat} {e d : Addr} (T : PySem.VeX.VeTxt X.prog X.K X.mg xn C fI) (I1 : Inv X pins σ H1 s1) (rv : RelV v v') (M : PySem.VeX.OwnMade s1.heap h' e C d v')
    (q1 : ∀ d, H1 d = none → Q (.ref C) (some d) (upd H1 d (.xd [(("value" : Str), v)]))) : L2N.MkP X pins σ Q (.ref e) { s1 with heap := h', toks := tk' } := by
  obtain ⟨oe, fv, hoe, hc, hd, hdat, h1, h2⟩ := M.obj
  obtain ⟨G, g1, g2⟩ := restrict h' fun b => decide (b ≠ e)
  have off : ∀ b, b ≠ e → G.get? b = h'.get? b := fun b hb => g1 b (decide_eq_true hb)
  have at_e : G.get? e = none := g2 e (by simp)
  have old : ∀ b o, s1.heap.get? b = some o → G.get? b = some o := fun b o z => (off b (Nat.ne_of_lt (Nat.lt_of_lt_of_le (Heap.lt_size z) M.new))).trans (M.keep b o z)
  have J := I1.laid (t' := tk') old M.dbig (show ObjOk X.prog X.w (upd H1 d (.xd [(("value" : Str), v)])) G d (.xd [(("value" : Str), v)]) from ⟨_, M.ns.at (fun o z => (off d M.dne).trans z), fun f => relO_val rv f⟩)
  refine ⟨e, oe, fv, _, _, .ref C, some d, rfl, J, fun b o z => ?_, at_e, hoe, ⟨hc, hd, fun vs' z => ?_⟩, hdat, h1, ?_, rfl, I1.bare, raises_own T.exC T.tyC, q1 d (I1.hok.fresh M.dbig)⟩
  · by_cases hb : b = e
    · have z : G.get? b = some o := z
      rw [hb, at_e] at z
      cases z
    · exact (off b hb).symm.trans z
  · rw [hdat] at z
    cases z
    exact h2
  · rw [upd_ne (Ne.symm M.dne)]
    exact I1.hok.fresh M.new
theorem pmk_veN {a : Expr} {ta : TA} {p pos : Pos} {k : Nat} (T : PySem.VeX.VeTxt X.prog X.K X.mg xn C fI) (hr : Room k X.A) (ha : PA X [a] ta) (hg : Gl X xn := by rfl)
    (hdb : (xn == ("__debug__" : Str)) = false := by decide) (he : starEach (a :: []) X.env = (false, eval a X.env) :: starEach [] X.env := by rfl) (hpl : (backTo pos (starEach [] X.env)).any (·.1) = false := by rfl) :
    L2N.PMk X (.Call (.Name xn p) [a] [] pos) (tMkVe C ta) := fun pins s σ H Q I h =>
  wpAny_Call_Name_kw (ld_glob I hg T.gC (PySem.W.callWith_K (h₀ := X.base) I.ok.mod.kin T.kC (thn (ha.run pos pins s σ H _ I h) fun us s1 ⟨vs, H1, I1, r1, v, ev, q1⟩ => ⟨I1.kIn, by
    subst ev
    cases r1 with
    | cons rv rn =>
      cases rn
      obtain ⟨mb, hmb, hbo⟩ := I1.ok.mod.blt
      have hS : mb "super" = some (.type "super") := (hbo _ (by decide +kernel)).trans (by first | rfl | kernel_rfl)
      exact wpAny_call (PySem.VeX.ve_made T I1.kIn (I1.ok.mod.glob.keeps I1.bk) (hmb.keeps I1.bk) hS I1.nolimit (by have := hr.dp; omega) fun h' tk' e d M => own_mk T I1 rv M q1)⟩) he hpl) hdb)
theorem pmk_veK {a : Expr} {ta : TA} {p pos kp : Pos} {k : Nat} (T : PySem.VeX.VeTxt X.prog X.K X.mg xn C fI) (hr : Room k X.A) (ha : PK X [⟨some "value", a, kp⟩] ta) (hg : Gl X xn := by rfl)
    (hdb : (xn == ("__debug__" : Str)) = false := by decide) (hall : (backToKw pos (keywordEach [⟨some "value", a, kp⟩] X.env)).all (·.1.isSome) = true := by rfl) (hks : (backToKw pos (keywordEach [⟨some "value", a, kp⟩] X.env)).filterMap (·.1) = [("value" : Str)] := by rfl)
    (hpl : ((backTo pos (starEach [] X.env)).any (·.1) || (backToKw pos (keywordEach [⟨some "value", a, kp⟩] X.env)).any (·.1.isNone)) = false := by rfl) :
    L2N.PMk X (.Call (.Name xn p) [] [⟨some "value", a, kp⟩] pos) (tMkVe C ta) := fun pins s σ H Q I h =>
  wpAny_Call_Name_kw (ld_glob I hg T.gC (PySem.W.callWith_KW0 (h₀ := X.base) I.ok.mod.kin T.kC hall (thn (ha.run pos pins s σ H _ I h) fun us s1 ⟨vs, H1, I1, r1, v, ev, q1⟩ => ⟨I1.kIn, by
    subst ev
    rw [hks]
    cases r1 with
    | cons rv rn =>
      cases rn
      obtain ⟨mb, hmb, hbo⟩ := I1.ok.mod.blt
      have hS : mb "super" = some (.type "super") := (hbo _ (by decide +kernel)).trans (by first | rfl | kernel_rfl)
      exact wpAny_call (PySem.VeX.ve_madeK T I1.kIn (I1.ok.mod.glob.keeps I1.bk) (hmb.keeps I1.bk) hS I1.nolimit (by have := hr.dp; omega) fun h' tk' e d M => own_mk T I1 rv M q1)⟩) hpl) hdb)
/-- an exception in hand is kept as a value -/
theorem pe_ofMk {e : Expr} {tm : L2.St → Hp → XK → Prop} (hm : L2N.PMk X e tm) : PE X e (fun σ H Q => tm σ H fun cls d H' => ∀ a, H' a = none → Q (.ref a) (upd H' a (ErO cls d a))) := ⟨fun pins s σ H Q I h =>
  thn (hm pins s σ H _ I h) fun u s1 ⟨a, oe, vs, sI, H', cls, d, hu, J, k, hne, ha, hz, hd, _, na, os, ag, _, q⟩ => by
    have I2 := J.laidN (h' := s1.heap) (t' := s1.toks) k hne na (erO_ok (P := X.prog) (w := X.w) (H := upd H' a (ErO cls d a)) ha hz.zc ⟨vs, hd⟩)
    exact ⟨.ref a, _, ⟨I2.ok, os.trans J.os, ag, I2.base, I2.loc, I2.cell, I2.free, I2.freeC, I2.pin, I2.hok, I2.len⟩, hu, q a na⟩⟩
theorem ps_raiseVeN {a : Expr} {ta : TA} {W : WX} {p pos pos2 : Pos} {k : Nat} (hc : X.calm = true) (T : PySem.VeX.VeTxt X.prog X.K X.mg xn C fI) (hr : Room k X.A) (tk : L2N.Takes X W) (ha : PA X [a] ta) (hg : Gl X xn := by rfl)
    (hdb : (xn == ("__debug__" : Str)) = false := by decide) (he : starEach (a :: []) X.env = (false, eval a X.env) :: starEach [] X.env := by rfl) (hpl : (backTo pos (starEach [] X.env)).any (·.1) = false := by rfl) :
    PS X (.Raise (some (.Call (.Name xn p) [a] [] pos)) none pos2) (tRaiseVe C W ta) := L2N.ps_raise hc tk (pmk_veN T hr ha hg hdb he hpl)
end
end Rn

set_option Elab.async false
set_option linter.all false
set_option maxRecDepth 100000
set_option maxHeartbeats 4000000
namespace Rn
open PySem PySem.Spec PyProof.Rows L2
/-! # p > q of two pairs of whole numbers -/
def rGtP (K : PySem.W.Frag) : R2 := fun x y H Q => ∃ (a b : Addr) (i j k l : Int), x = .ref a ∧ y = .ref b ∧ SqT K H a [.int i, .int j] ∧ SqT K H b [.int k, .int l] ∧ Q (.bl (if i = k then decide (l < j) else decide (k < i))) H
theorem op_gtP {X : Cx} (hu0 : X.A.units + 64 < cLine) : OpR X (compareOp .Gt) (rGtP X.K) := by
  have hu : X.A.units < cLine := by omega
  intro pins s σ H x y v u Q I rx ry h
  obtain ⟨a, b, i, j, k, l, rfl, rfl, ha, hb, q⟩ := h
  cases rx
  cases ry
  obtain ⟨its, r1, p1, _⟩ := I.tuple ha
  obtain ⟨its2, r2, p2, _⟩ := I.tuple hb
  have i1 : IntsAre its [i, j] := Vals.ints (ns := [i, j]) r1
  have i2 : IntsAre its2 [k, l] := Vals.ints (ns := [k, l]) r2
  cases i1 with | cons _ t1 i1 => cases i1 with | cons _ t2 i1 => cases i1 with | nil =>
  cases i2 with | cons _ t3 i2 => cases i2 with | cons _ t4 i2 => cases i2 with | nil =>
  have eqd : ∀ (m n : Int), (m == n) = decide (m = n) := fun m n => by
    by_cases q : m = n
    · rw [decide_eq_true q]; exact beq_iff_eq.mpr q
    · rw [decide_eq_false q]; exact beq_eq_false_iff_ne.mpr q
  have R := Ob.RcOp.tuples_gt (A := X.A) (s := s) (e := fun n => if n = 0 then decide (i = k) else decide (j = l)) (r := fun n => if n = 0 then decide (k < i) else decide (l < j)) p1 p2 hu (fun n h1 h2 => by
    match n, h1, h2 with
    | 0, _, _ => exact eqd i k ▸ SeqAt.EqAt.int_int i _ k _
    | 1, _, _ => exact eqd j l ▸ SeqAt.EqAt.int_int j _ l _
    | n + 2, h1, _ => exact absurd h1 (by simp)) (fun n h1 h2 _ => by
    match n, h1, h2 with
    | 0, _, _ => exact Ob.RcOp.gt_int i k _ _
    | 1, _, _ => exact Ob.RcOp.gt_int j l _ _
    | n + 2, h1, _ => exact absurd h1 (by simp))
  have e : Ob.lexAt (fun n => if n = 0 then decide (i = k) else decide (j = l)) (fun n => if n = 0 then decide (k < i) else decide (l < j)) (decide (2 > 2)) 0 (min 2 2) = (if i = k then decide (l < j) else decide (k < i)) := by
    show Ob.lexAt _ _ _ 0 2 = _
    rw [Ob.lexAt_succ, Ob.lexAt_succ, Ob.lexAt_zero]
    by_cases p : i = k
    · by_cases q : j = l
      · simp [p, q]
      · simp [p, q]
    · simp [p]
  have z : wpAny (model X.prog X.w) X.A (compareOp .Gt (.ref a) (.ref b)) (EP X pins σ Q) X.xe s := R X.prog X.w X.xe (EP X pins σ Q) (by
    show EP X pins σ Q (.bool (Ob.lexAt _ _ (decide (2 > 2)) 0 (min 2 2))) s
    rw [e]
    exact ⟨.bl _, H, I, rfl, q⟩)
  exact z
theorem pg_tupK {X : Cx} {K : PySem.W.Frag} (hK : X.K = K) {es : List Expr} {k : Nat} {t : TGs} {n : Nat} {pos : Pos} (hc : X.calm = true) (h : PGs X es t)
    (hn : (assignEach es X.env).length = n := by rfl) (hst : (assignEach es X.env).findIdx? (·.1) = none := by rfl) : PG X (.Tuple es k pos) (gTup K n t) := by
  subst hK
  exact pg_tup hc h hn hst
end Rn

set_option Elab.async false
set_option linter.all false
set_option maxRecDepth 100000
set_option maxHeartbeats 4000000
/-! # while an exception is handled: the ends of lists and tuples, tuples taken apart, a comprehension over a list -/
namespace Rn
open PySem PySem.Spec PyProof.Rows L2 HotX
section
variable {prog : Program} {w : World} {A : Around} {E : Value → Shared → Prop} {s : Shared}
theorem hot_over {x1 it : Addr} {f : Obj → Obj} (hot : HotAt A x1 s.heap) (hn : it ≠ x1) : HotAt A x1 (s.heap.update it f) := by
  obtain ⟨h1, o, vs, g, r⟩ := hot
  exact ⟨h1, o, vs, by rw [Heap.get?_update_other _ _ hn]; exact g, r⟩
/-- the object of an iterator over items is no exception -/
theorem hot_ne {x1 it : Addr} {o : Obj} {a b : Value} (hot : HotAt A x1 s.heap) (e : s.heap.get? it = some o) (d : o.data = .fields #[a, b]) : it ≠ x1 := fun z => by
  obtain ⟨_, o1, vs, g, d1, c1⟩ := hot
  rw [← z, e] at g
  cases g
  rw [d] at d1
  cases d1
  cases c1
/-- StopIteration raised there, and seen by next -/
theorem stop_hot {x1 : Addr} {R : Fin → Shared → Prop} {Q : Option Value → Shared → Prop} (hot : HotAt A x1 s.heap) (q : ∀ h', (∀ b o, s.heap.get? b = some o → h'.get? b = some o) → Q none { s with heap := h' }) :
    wpAny (model prog w) A.in1 Builtin.SmallTypes.stopIteration R (fun e s' => wpAny (model prog w) A (do
      let is ← isInstance e (.type "StopIteration")
      if is = true then pure none else throw e) Q E s') s := by
  obtain ⟨hh, o1, vs1, g1, d1, c1⟩ := hot
  show wpAny _ _ (newExc (.type "StopIteration") [] >>= _) _ _ _
  refine wpAny_bind ?_
  simp only [newExc, newTuple]
  refine wpAny_bind (wpAny_newObj_type ?_ (by size_fits))
  refine wpAny_bind (m := firstArgMember _ _) (wpAny_of_eq (a := Value.none) (by first | rfl | (simp only [firstArgMember]; rfl)) ?_)
  refine wpAny_newObj_type ?_ (by size_fits)
  refine raiseNew_hot (A := A.in1) ⟨hh, o1, vs1, Heap.get?_push_of_some _ (Heap.get?_push_of_some _ g1), d1, c1⟩ (Nat.ne_of_lt (Heap.lt_size (Heap.get?_push_of_some _ g1))) (Heap.get?_push_size _ rfl) rfl (by first | (simp; done) | (simp; omega) | (simp only [Array.size_append]; simp; omega)) ?_
  refine wpAny_bind (wpAny_isInstance (T := "StopIteration") (b := true) ⟨_, Heap.get?_update_self _ (Heap.get?_push_size _ rfl) rfl, rfl⟩ isSubtype_stop ?_)
  refine wpAny_pure (q _ fun b o e => ?_)
  rw [Heap.get?_update_other _ _ (Nat.ne_of_gt (Heap.lt_size (Heap.get?_push_of_some _ e)))]
  exact Heap.get?_push_of_some _ (Heap.get?_push_of_some _ e)
theorem list_end_hot {it l x1 : Addr} {i : Nat} {items : Array Value} {Q : Option Value → Shared → Prop} (hot : HotAt A x1 s.heap) (hit : s.heap.IsListIter it l i) (hl : s.heap.IsList l items) (hx : items[i]? = none)
    (q : ∀ h', Heap.ExtBut it s.heap h' → Q none { s with heap := h' }) : wpAny (model prog w) A (pyNext (.ref it)) Q E s := by
  obtain ⟨o, ho, hc, hd⟩ := id hit
  obtain ⟨ol, hol, _, nl, hdl⟩ := hl
  unfold pyNext
  refine wpAny_bind (wpAny_attempt (wpAny_callSpecial?_slot (name := Str.ofString "__next__") hit.typeIs slot_listiter_next (wpAny_call_entry slot_listiter_next hit.typeIs entry_listiter_next ?_ (args_listiter_next _))))
  show wpAny _ _ (field (.ref it) 0 >>= _) _ _ s
  refine wpAny_bind (wpAny_field ho hd (x := .ref l) rfl ?_)
  show wpAny _ _ (if (Value.ref l == Value.none) = true then _ else _) _ _ s
  rw [if_neg (show ¬ ((Value.ref l == Value.none) = true) from Bool.false_ne_true)]
  show wpAny _ _ (field (.ref it) 1 >>= _) _ _ s
  refine wpAny_bind (wpAny_field ho hd (x := .int i 0) rfl ?_)
  show wpAny _ _ (seqItems? (.ref l) >>= _) _ _ s
  refine wpAny_bind (wpAny_seqItems hol hdl ?_)
  simp only [Int.toNat_natCast, hx]
  refine wpAny_bind (wpAny_rule (wpAny_bind (wpAny_setField ho hd (by simp) (stop_hot (hot_over hot (hot_ne hot ho hd)) fun h' k => q h' fun b o hb e => k b o ?_))))
  show (s.heap.update it _).get? b = some o
  rw [Heap.get?_update_other _ _ (Ne.symm hb)]
  exact e
theorem tup_end_hot {it l x1 : Addr} {i : Nat} {items : Array Value} {Q : Option Value → Shared → Prop} (hot : HotAt A x1 s.heap) (hit : IsTupIter s.heap it l i) (hl : IsTup s.heap l items) (hx : items[i]? = none)
    (q : ∀ h', Heap.ExtBut it s.heap h' → Q none { s with heap := h' }) : wpAny (model prog w) A (pyNext (.ref it)) Q E s := by
  obtain ⟨o, ho, hc, hd⟩ := id hit
  obtain ⟨ol, hol, _, nl, hdl⟩ := hl
  unfold pyNext
  refine wpAny_bind (wpAny_attempt (wpAny_callSpecial?_slot (name := Str.ofString "__next__") hit.typeIs slot_tupleiter_next (wpAny_call_entry slot_tupleiter_next hit.typeIs entry_tupleiter_next ?_ (args_tupleiter_next _))))
  show wpAny _ _ (field (.ref it) 0 >>= _) _ _ s
  refine wpAny_bind (wpAny_field ho hd (x := .ref l) rfl ?_)
  show wpAny _ _ (if (Value.ref l == Value.none) = true then _ else _) _ _ s
  rw [if_neg (show ¬ ((Value.ref l == Value.none) = true) from Bool.false_ne_true)]
  show wpAny _ _ (field (.ref it) 1 >>= _) _ _ s
  refine wpAny_bind (wpAny_field ho hd (x := .int i 0) rfl ?_)
  show wpAny _ _ (seqItems? (.ref l) >>= _) _ _ s
  refine wpAny_bind (wpAny_seqItems hol hdl ?_)
  simp only [Int.toNat_natCast, hx]
  refine wpAny_bind (wpAny_rule (wpAny_bind (wpAny_setField ho hd (by simp) (stop_hot (hot_over hot (hot_ne hot ho hd)) fun h' k => q h' fun b o hb e => k b o ?_))))
  show (s.heap.update it _).get? b = some o
  rw [Heap.get?_update_other _ _ (Ne.symm hb)]
  exact e
/-- (a, b, ..) = a tuple -/
theorem assign_tup_hot {env : Env} {elts : List Expr} {k : Nat} {pos : Pos} {t x1 : Addr} {items : Array Value} {Q : Unit → Shared → Prop} (hot : HotAt A x1 s.heap) (ht : IsTup s.heap t items)
    (hn : (assignEach elts env).length = items.size) (hstar : (assignEach elts env).findIdx? (·.1) = none)
    (h : ∀ h', Heap.ExtBut s.heap.objs.size s.heap h' → wpAny (model prog w) A (assignInOrder ((assignEach elts env).map (·.2)) items.toList) Q E { s with heap := h' }) :
    wpAny (model prog w) A (assign (.Tuple elts k pos) env (.ref t)) Q E s := by
  have nt : t ≠ s.heap.objs.size := by
    obtain ⟨o, ho, _⟩ := ht
    exact Nat.ne_of_lt (Heap.lt_size ho)
  have old : ∀ b o, s.heap.get? b = some o → b ≠ s.heap.objs.size := fun b o e => Nat.ne_of_lt (Heap.lt_size e)
  rw [assign_Tuple]
  refine wpAny_bind (wpAny_standAt ?_)
  unfold unpack
  rw [hn, hstar]
  refine wpAny_bind (wpAny_holding ?_)
  unfold unpackItems notIterableAtAll
  refine wpAny_bind (wpAny_bind (wpAny_specialOf ht.typeIs slot_tuple_iter.lookup (wpAny_pure ?_)))
  simp only [Bool.false_eq_true, if_false]
  refine wpAny_bind (wpAny_holding (iter_tuple ht ?_))
  refine wpAny_bind (wpAny_holding (draw_tuple nt items.size 0 _ _ ⟨_, Heap.get?_push_size _ rfl, rfl, rfl⟩ (ht.push _) (by omega) fun h1 hit1 sb1 => ?_))
  rw [show List.take items.size (List.drop 0 items.toList) = items.toList from by rw [List.drop_zero]; exact List.take_of_length_le (by simp), if_neg (by simp)]
  have hot1 : HotAt A x1 h1 := by
    obtain ⟨e1, o, vs, g, r⟩ := hot
    exact ⟨e1, o, vs, sb1.extBut x1 o (old _ _ g) (Heap.get?_push_of_some _ g), r⟩
  refine wpAny_bind (wpAny_holding (tup_end_hot hot1 hit1 ((ht.push _).extBut sb1.extBut nt) (by simp) fun h2 eb => ?_))
  simp only [Option.isSome_none, Bool.false_eq_true, if_false]
  exact wpAny_pure (h h2 fun b o hb e => eb b o hb (sb1.extBut b o hb (Heap.get?_push_of_some _ e)))
end
/-! ## the block of a comprehension there -/
/-- the handled exception has stood since the context's start, out of everybody's reach -/
def HotB (Y : Cx) : Prop := ∃ p : Addr × Obj, L2H.Hot1 Y.A p ∧ Y.s_0.heap.get? p.1 = some p.2 ∧ Y.H_0 p.1 = none ∧ p.1 ∉ Y.fs ∧ p.1 ∉ Y.ex
theorem HotB.at {Y : Cx} {pins : List (Addr × Obj)} {σ : L2.St} {H : Hp} {s : Shared} (c : HotB Y) (I : Inv Y pins σ H s) : ∃ x1, HotAt Y.A x1 s.heap := by
  obtain ⟨p, ⟨hh, v1, e1, c1⟩, g, n, nf, nx⟩ := c
  exact ⟨p.1, hh, p.2, v1, I.base.keep _ _ g n nf nx, e1, c1⟩
theorem pg_tupH {Y : Cx} {K : PySem.W.Frag} (hK : Y.K = K) (hb : HotB Y) {es : List Expr} {k : Nat} {t : TGs} {n : Nat} {pos : Pos} (h : PGs Y es t)
    (hn : (assignEach es Y.env).length = n := by rfl) (hst : (assignEach es Y.env).findIdx? (·.1) = none := by rfl) : PG Y (.Tuple es k pos) (gTup K n t) := by
  subst hK
  refine ⟨fun pins s σ H v u Q I r hw => ?_⟩
  obtain ⟨a, xs, e1, hq, hl, hw⟩ := hw
  subst e1
  cases r
  obtain ⟨its, rv, ht, hz⟩ := I.tuple hq
  obtain ⟨x1, hot⟩ := hb.at I
  exact assign_tup_hot hot ht (by simp [hn, ← hl, rv.length]) hst fun h' hx => h.run pins _ σ H xs _ Q (I.kept (t' := s.toks) fun b o e => hx b o (Nat.ne_of_lt (Heap.lt_size e)) e) (by simpa using rv) hw
/-- the loop in the block: D the new list, the list walked at a, its iterator at it -/
theorem loop_hot {Y : Cx} {it a D : Addr} {σ : L2.St} {vs : List Nat} {H : Hp} {s : Shared} {elt tg iter : Expr} {ifs : List Expr} {scope : Scope} {pos : Pos} {g : TG} {tt : TT} {te : TE} {W : Nat → Nat → Hp → Prop} {Qd : Hp → Prop} {m : Nat} {R : Result → Shared → Prop}
    (hb : HotB Y) (hex : Y.ex = [it]) (hpn : Y.pn = []) (hxe : Y.xe = fun _ _ => False) (pg : PG Y tg g) (pt : PTs Y ifs tt) (pe : PE Y elt te) (I : Inv Y [] (wipe σ vs) H s) (st : s.heap.IsListIter it a 0) (n0 : H it = none) (w0 : W 0 m H)
    (turn : ∀ i m H, W i m H → ((Itl Y.K a).stop i H ∧ Qd H) ∨ ((Itl Y.K a).go i H ∧ ∃ Nx : Hp → Prop, (∀ H', Nx H' → ∃ m', m' < m ∧ W (i + 1) m' H') ∧ ∀ x H', (Itl Y.K a).yld i H x H' → g x (wipe σ vs) H' fun σ2 H2 => wipe σ2 vs = wipe σ vs ∧ tt σ2 H2 fun b H3 =>
      if b = true then te σ2 H3 fun y H4 => ∃ acc, H4 D = some (.lst acc) ∧ acc.length < sizeLine ∧ Nx (upd H4 D (.lst (acc ++ [y]))) else Nx H3))
    (fin : ∀ s' H', Inv Y [] (wipe σ vs) H' s' → Qd H' → R (.ok .next) s') :
    codeAny (model Y.prog Y.w) Y.A (.compLoop (.ListComp elt [⟨tg, iter, ifs, 0⟩] scope pos) 0 (.ref it) (.ref D) Y.env) R s := by
  have fp : ∀ {σ' : L2.St} {H' : Hp} {s' : Shared}, Inv Y [] σ' H' s' → H' it = none → FpOk Y [] H' it := fun {σ' H' s'} J n => by
    have inEx : it ∈ Y.ex := by rw [hex]; exact .head _
    exact ⟨n, (J.ok.exf it inEx).1, J.ok.exfs it inEx, .inl inEx, (J.ok.exf it inEx).2, fun p hp => by rw [hpn] at hp; cases hp⟩
  have xeF : ∀ {α : Type} {t : Sem α} {Q Q' : α → Shared → Prop} {E : Value → Shared → Prop} {s' : Shared}, wpAny (model Y.prog Y.w) Y.A t Q Y.xe s' → (∀ a s, Q a s → Q' a s) → wpAny (model Y.prog Y.w) Y.A t Q' E s' := fun h k => thnF (by rw [hxe] at h; exact h) k
  refine compLoop_any (fun n s' => ∃ i H', Inv Y [] (wipe σ vs) H' s' ∧ s'.heap.IsListIter it a i ∧ H' it = none ∧ W i n H') ?_ m ⟨0, H, I, st, n0, w0⟩
  rintro n s1 ⟨i, H1, J1, st1, n1, w1⟩
  obtain ⟨f0, f1, f2, f3, f4, f5⟩ := fp J1 n1
  rcases turn i n H1 w1 with ⟨⟨xs, hq, hx⟩, qd⟩ | ⟨⟨xs, x, hq, hx⟩, Nx, less, step⟩
  · obtain ⟨its, rv, pl, _⟩ := J1.list hq
    obtain ⟨x1, hot⟩ := hb.at J1
    have hl := rv.length
    exact list_end_hot hot st1 pl.isList (by simp; omega) fun h' eb => fin _ _ (J1.turned (t' := s1.toks) (fun b o k e => eb b o k e) f0 f1 f3 f4 f5) qd
  · obtain ⟨its, rv, pl, _⟩ := J1.list hq
    obtain ⟨u, hu, ru⟩ := rv.get hx
    refine wpAny_pyNext_list_item st1 pl.isList (x := u) (by simpa using hu) fun h' st2 sb => ?_
    have J2 : Inv Y [] (wipe σ vs) H1 { s1 with heap := h' } := J1.turned (t' := s1.toks) (fun b o k e => (sb.2 b k).trans e) f0 f1 f3 f4 f5
    obtain ⟨o, e2, c2, d2⟩ := id st2
    refine go_of (s := { s1 with heap := h' }) e2 c2 d2 (by decide) ?_
    have J3 := J2.pinned (fp := [it]) (fun b hb => by rw [List.mem_singleton.mp hb]; exact fp J2 n1) (fun b hb => ⟨o, by rw [List.mem_singleton.mp hb]; exact e2, fun v z => by rw [d2] at z; cases z⟩)
    have pin : ∀ {σ' : L2.St} {H' : Hp} {s' : Shared}, Inv Y ([] ++ pinsAt [it] h') σ' H' s' → s'.heap.get? it = some o ∧ H' it = none := fun {σ' H' s'} J => by
      have z := J.pin (it, o) (List.mem_append_right _ (List.mem_append_right _ (mem_pinsAt (.head _) e2)))
      exact ⟨z.1, z.2.1⟩
    refine xeF (pg.run _ _ _ H1 x u _ J3 ru (step x H1 ⟨rfl, fun ys hy => by rw [J1.list_inj hy hq]; exact hx⟩)) fun _ s4 ⟨σ4, H4, J4, w4, q4⟩ => ?_
    refine xeF (pt.run _ s4 σ4 H4 _ J4 q4) fun b s5 ⟨H5, J5, q5⟩ => ?_
    have done : ∀ {s' : Shared} {H' : Hp}, Inv Y ([] ++ pinsAt [it] h') σ4 H' s' → Nx H' → ∃ m, m < n ∧ ∃ i H', Inv Y [] (wipe σ vs) H' s' ∧ s'.heap.IsListIter it a i ∧ H' it = none ∧ W i m H' := fun {s' H'} J nx => by
      obtain ⟨m', lt, w'⟩ := less H' nx
      obtain ⟨g1, g2⟩ := pin J
      refine ⟨m', lt, i + 1, H', (J.unpinned (pins := [])).weak (by rw [wipe_length, ← wipe_length σ4 vs, w4, wipe_length]) fun j v e => ?_, ⟨o, g1, c2, d2⟩, g2, w'⟩
      rw [← w4] at e
      exact (wipe_some e).1
    cases b with
    | false =>
      simp only [Bool.false_eq_true, if_false] at q5 ⊢
      exact done J5 q5
    | true =>
      simp only [if_true] at q5 ⊢
      exact xeF (pe.run _ s5 σ4 H5 _ J5 q5) fun z s6 ⟨yv, H6, J6, r6, acc, hD, hz, nx⟩ => app_ok (X := Y) J6 hD hz r6 fun s7 J7 => done J7 nx
section
variable {X : Cx}
theorem ps_setLcH {i : Nat} {y : Str} {py : Pos} {elt tg iter : Expr} {ifs : List Expr} {scope : Scope} {own : List (Str × Nat)} {pos spos : Pos} {tl : TE} {g : TG} {tt : TT} {te : TE} (hc : L2H.HotC X) (hN : X.N.Nodup) (hy : X.N[i]? = some y) (hyl : X.env.scope.names.lookup y = some .local)
    (hsw : swapsWith (.ListComp elt [⟨tg, iter, ifs, 0⟩] scope pos) (some (.Name y py)) spos.line X.env = pure true) (hi : PE X iter tl) (ok : BlkOk X.N X.env.scope scope own)
    (hg : ∀ (s : Shared) (H : Hp) (C : Addr) (cl : List (Str × Addr)) (fp : List Addr), HotB (X.blk s H scope (compEnvC scope cl C X.env) fp) → PG (X.blk s H scope (compEnvC scope cl C X.env) fp) tg g) (ht : ∀ (s : Shared) (H : Hp) (C : Addr) (cl : List (Str × Addr)) (fp : List Addr), PTs (X.blk s H scope (compEnvC scope cl C X.env) fp) ifs tt)
    (he : ∀ (s : Shared) (H : Hp) (C : Addr) (cl : List (Str × Addr)) (fp : List Addr), PE (X.blk s H scope (compEnvC scope cl C X.env) fp) elt te) (hs : ∀ x, foldedSetIterable iter X.env x = pure x := by intro _; rfl) :
    PS X (.Assign [.Name y py] (.ListComp elt [⟨tg, iter, ifs, 0⟩] scope pos) spos) (tAsg (tLc (iList X.K tl) g tt te (own.map (·.2))) (gName i)) := by
  refine ⟨fun pins s σ H D I h => ?_⟩
  obtain ⟨p, hot, hp⟩ := hc
  have closed : ∀ y ∈ scope.names, y.2 = .free → ∃ c, X.env.cells.lookup y.1 = some c := fun y hy e => (ok.free y hy e).elim (fun k => I.ok.has _ (.inl k)) fun k => I.ok.has _ (.inr k)
  rw [exec_Assign_Name_used _ _ _ _ hsw]
  refine wpAny_bind (wpAny_standAt (wpAny_bind ?_))
  show wpAny _ X.A (do let _ ← comprehension (.ListComp elt [⟨tg, iter, ifs, 0⟩] scope pos) scope X.env (firstIterPos [⟨tg, iter, ifs, 0⟩] pos) (newList []) false (eval iter X.env) (some (assign (.Name y py) X.env))) _ _ s
  dsimp only [tAsg, tLc, iList] at h
  refine wpAny_bind (thn (wpAny_comprehension_free (use := some (assign (.Name y py) X.env)) (Q := fun _ s' => SP X pins D .next s') rfl hs (closure_ok closed) ok.kind (fun y hy e => by rw [ok.uniq y hy, e])
    (thn (hi.run pins s σ H _ I h) fun xv s1 ⟨x, H1, I1, r1, a, ex, ⟨xs0, hq0⟩, q⟩ => ?_)) fun _ s' hq => wpAny_pure (wpAny_pure hq))
  subst ex
  cases r1
  obtain ⟨its0, _, pl0, _⟩ := I1.list hq0
  refine wpAny_pyIter_list pl0.isList ?_
  have st2 : (s1.heap.push { cls := .type "list_iterator", data := .fields #[.ref a, .int 0 0] }).IsListIter s1.heap.objs.size a 0 := ⟨_, Heap.get?_push_size _ rfl, rfl, rfl⟩
  have I2 : Inv X pins σ H1 { s1 with heap := s1.heap.push { cls := .type "list_iterator", data := .fields #[.ref a, .int 0 0] } } := I1.kept (t' := s1.toks) fun b o e => Heap.get?_push_of_some _ e
  have fpI : ∀ {H' : Hp}, H' s1.heap.objs.size = none → FpOk X pins H' s1.heap.objs.size := fun n => I1.fpOk (Nat.le_refl _) n
  have nI : H1 s1.heap.objs.size = none := I1.hok.fresh (Nat.le_refl _)
  have ltI : s1.heap.objs.size < (s1.heap.push { cls := .type "list_iterator", data := .fields #[.ref a, .int 0 0] }).objs.size := by rw [Heap.size_push]; exact Nat.lt_succ_self _
  generalize hs2 : ({ s1 with heap := s1.heap.push { cls := .type "list_iterator", data := .fields #[.ref a, .int 0 0] } } : Shared) = s2 at I2 ⊢
  have h2 : s1.heap.push { cls := .type "list_iterator", data := .fields #[.ref a, .int 0 0] } = s2.heap := by rw [← hs2]
  rw [h2] at st2 ltI
  generalize s1.heap.objs.size = it at st2 fpI nI ltI ⊢
  refine wpAny_newObj_type (newEnv_comp ?_) (by show 0 ≤ sizeLine; decide)
  have I3 : Inv X pins σ (upd H1 s2.heap.objs.size (.lst [])) { s2 with heap := s2.heap.push { cls := .type "list", data := .seq ([] : List Value).toArray } } :=
    I2.laid (t' := s2.toks) (fun b o e => Heap.get?_push_of_some _ e) (Nat.le_refl _) ⟨Nat.zero_le _, [], 0, .nil, Heap.get?_push_size _ rfl⟩
  have st3 : (s2.heap.push { cls := .type "list", data := .seq ([] : List Value).toArray }).IsListIter it a 0 := by
    obtain ⟨o, e, r⟩ := st2
    exact ⟨o, Heap.get?_push_of_some _ e, r⟩
  have n3 : upd H1 s2.heap.objs.size (.lst []) it = none := by rw [upd_ne (Nat.ne_of_lt ltI)]; exact nI
  obtain ⟨W, ⟨m0, w0⟩, turn⟩ := q s2.heap.objs.size (I2.hok.fresh (Nat.le_refl _))
  have lt3 : it < (s2.heap.push { cls := .type "list", data := .seq ([] : List Value).toArray }).objs.size := by rw [Heap.size_push]; exact Nat.lt_succ_of_lt ltI
  generalize hH3 : upd H1 s2.heap.objs.size (.lst []) = H3 at I3 n3 w0
  generalize s2.heap.objs.size = L at w0 turn ⊢
  generalize hs3 : ({ s2 with heap := s2.heap.push { cls := .type "list", data := .seq ([] : List Value).toArray } } : Shared) = s3 at I3
  have h3 : s2.heap.push { cls := .type "list", data := .seq ([] : List Value).toArray } = s3.heap := by rw [← hs3]
  rw [h3] at st3 lt3
  have P3 := I3.pin p (List.mem_append_left _ hp)
  have B := block_start (fp := [it]) I3 ok hN fun b hb => by rw [List.mem_singleton.mp hb]; exact ⟨fpI n3, lt3⟩
  show codeAny _ _ (.compStart (.ListComp elt [⟨tg, iter, ifs, 0⟩] scope pos) 0 (.ref it) (.ref L) (compEnvC scope (cellsFrom (s3.heap.objs.size + 1) scope.names (cloFrom X.env.cells scope.names [])) s3.heap.objs.size X.env))
    (compPost (model X.prog X.w) X.A X.xe (some (assign (.Name y py) X.env)) (fun _ s' => SP X pins D .next s') (.ref L) s3.heap.objs.size) { s3 with heap := pushCells (s3.heap.push { cls := .type "dict", data := .dict #[] }) scope.names }
  have hot4 : HotB (X.blk s3 H3 scope (compEnvC scope (cellsFrom (s3.heap.objs.size + 1) scope.names (cloFrom X.env.cells scope.names [])) s3.heap.objs.size X.env) [it]) :=
    ⟨p, hot, P3.1, P3.2.1, fun hm => (List.mem_cons.mp (I3.stkSub p.1 hm)).elim P3.2.2.1 P3.2.2.2.1, fun hm => (fpI n3).2.2.2.2.2 p (List.mem_append_left _ hp) (List.mem_singleton.mp hm)⟩
  have pg := hg s3 H3 s3.heap.objs.size (cellsFrom (s3.heap.objs.size + 1) scope.names (cloFrom X.env.cells scope.names [])) [it] hot4
  have pt := ht s3 H3 s3.heap.objs.size (cellsFrom (s3.heap.objs.size + 1) scope.names (cloFrom X.env.cells scope.names [])) [it]
  have pe := he s3 H3 s3.heap.objs.size (cellsFrom (s3.heap.objs.size + 1) scope.names (cloFrom X.env.cells scope.names [])) [it]
  have cL : (compEnvC scope (cellsFrom (s3.heap.objs.size + 1) scope.names (cloFrom X.env.cells scope.names [])) s3.heap.objs.size X.env).locals = s3.heap.objs.size := rfl
  have st4 : (pushCells (s3.heap.push { cls := .type "dict", data := .dict #[] }) scope.names).IsListIter it a 0 := by
    obtain ⟨o, e, r⟩ := st3
    exact ⟨o, pushCells_keeps _ _ _ _ (Heap.get?_push_of_some _ e), r⟩
  have loop := loop_hot (D := L) (elt := elt) (iter := iter) (scope := scope) (pos := pos) (R := compPost (model X.prog X.w) X.A X.xe (some (assign (.Name y py) X.env)) (fun _ s' => SP X pins D .next s') (.ref L) s3.heap.objs.size)
    hot4 rfl rfl rfl pg pt pe B st4 n3 w0 turn fun s6 H6 I6 qd => ?_
  · exact codeAny_compStart_list loop (wpAny_pyIter_listiter st4 loop)
  have back := fpI (H' := H3) n3
  have I7 : Inv X pins σ H6 s6 := I3.call' (ch := [it]) I6.os I6.base I6.hok I6.bare fun b hb => by
    rw [List.mem_singleton.mp hb]
    exact ⟨back.2.2.2.1, back.2.1, back.2.2.2.2.1, back.2.2.2.2.2⟩
  have nC : H6 s3.heap.objs.size = none := I6.free
  obtain ⟨mm, hn, _⟩ := I6.loc
  obtain ⟨f0, f1, f2, f3, f4, f5⟩ := I3.fpOk (Nat.le_refl _) nC
  show wpAny _ _ (assign (.Name y py) X.env (.ref L)) _ _ _
  refine wpAny_assign_Name (store_ok2 (v := V.ref L) I7 hN hy (.inl hyl) rfl (fun s7 J7 ⟨c, sb, hc⟩ => ?_) (.inr hyl))
  have ne : s3.heap.objs.size ≠ c := by
    rcases hc with z | z
    · rw [z]
      exact f1
    · exact fun e => f4 y c z e.symm
  exact ⟨mm, hn.sameBut sb ne, fun h8 sb8 => ⟨_, H6, J7.turned (t' := s7.toks) (fun b o hb e => (sb8.2 b hb).trans e) f0 f1 f3 f4 f5, qd⟩⟩
end
end Rn

set_option Elab.async false
set_option linter.all false
set_option maxRecDepth 100000
set_option maxHeartbeats 4000000
/-! # defs that raise with no context, the exception handed on within the except suite -/
namespace Rn
open PySem PySem.Spec PyProof.Rows L2
section
variable {P : Program} {w : World} {K : PySem.W.Frag} {mg : Str → Option Value} {base : Heap} {x qual : Str} {st : Stmt} {f : Addr} {fd : FuncData} {N ps : List Str} {k : Nat}
/-- a def that may raise, the exception's context None -/
theorem okN {sp : Sp} (F : L2.Fun K x qual st f fd) (S : FnScope N ps (defScope st)) (len : ∀ vs H Q E, sp vs H Q E → vs.length = ps.length)
    (hbody : ∀ (cdv : Value) (A : Around) (outer : List Env) (s : Shared) (H : Hp) (vs : List V) (Q : VK) (E : XK), Room k (A.deeper (envOfC qual (defScope st) s.heap.objs.size f cdv)) → sp vs H Q E →
      ∃ t, PSs (cxOf (L2N.CX P w) P w K mg base N qual (defScope st) f cdv A outer s H E) (defBody st) t ∧ t { nx := fun _ H' => Q .non H', rt := Q } (start N vs) H) : FnOk P w K mg base (L2N.CX P w) (k + 1) f fd ps sp := by
  obtain ⟨oc, od, kV, doc, pm, an, cdv, ct, osl, rfl, lk, hcd⟩ := F.ex
  exact fn_of lk hcd S len (hbody cdv)
theorem calm0N {sp sp0 : Sp} (F : FnOk P w K mg base (L2N.CX P w) k f fd ps sp) (h : ∀ vs H Q E, sp0 vs H Q E → sp vs H Q (fun _ _ _ => False)) : FnOk P w K mg base CX0 k f fd ps sp0 :=
  ⟨fun vs H Q E q => F.len vs H Q _ (h _ _ _ _ q), fun A outer s H args us vs Q E hr he hb hv hs => codeAny_mono (F.run A outer s H args us vs Q _ hr he hb hv (h _ _ _ _ hs)) fun r s' z => by
    rcases r with e | fl
    · obtain ⟨_, _, _, _, _, _, _, _, _, _, _, _, no⟩ := z
      exact no.elim
    · cases fl <;> exact z⟩
/-- a promise that speaks of the exception that is handled: where it is, its class, its dict -/
abbrev SpE := Addr → Value → Option Addr → Sp
/-- a def called while that exception is handled -/
structure FnE (P : Program) (w : World) (K : PySem.W.Frag) (mg : Str → Option Value) (base : Heap) (k : Nat) (f : Addr) (fd : FuncData) (ps : List Str) (sp : SpE) : Prop where
  len : ∀ a c d vs H Q E, sp a c d vs H Q E → vs.length = ps.length
  run : ∀ (A : Around) (outer : List Env) (s : Shared) (H : Hp) (args : Args) (us : List Value) (vs : List V) (Q : VK) (E : XK) (p : Addr × Obj) (c : Value) (d : Option Addr), L2H.RoomH k A → L2H.Hot1 A p → L2N.Zn c d p.2 → L2H.PinOk outer H s p → Env0 P w K mg base A outer s H → BindsTo s fd args (ps.zip us) → Vals vs us → sp p.1 c d vs H Q E →
    codeAny (model P w) A (.call (.ref f) args) (CR CX0 outer P w H s Q E) s
theorem okE {sp : SpE} (F : L2.Fun K x qual st f fd) (S : FnScope N ps (defScope st)) (len : ∀ a c d vs H Q E, sp a c d vs H Q E → vs.length = ps.length)
    (hbody : ∀ (cdv : Value) (A : Around) (outer : List Env) (s : Shared) (H : Hp) (vs : List V) (Q : VK) (E : XK) (p : Addr × Obj) (c : Value) (d : Option Addr), L2H.Hot1 A p → L2N.Zn c d p.2 → L2H.RoomH k (A.deeper (envOfC qual (defScope st) s.heap.objs.size f cdv)) → sp p.1 c d vs H Q E →
      ∃ t, PSs (L2H.cxH CX0 P w K mg base N qual (defScope st) f cdv A outer s H E p) (defBody st) t ∧ t { nx := fun _ H' => Q .non H', rt := Q } (start N vs) H) : FnE P w K mg base (k + 1) f fd ps sp := by
  obtain ⟨oc, od, kV, doc, pm, an, cdv, ct, osl, rfl, lk, hcd⟩ := F.ex
  refine ⟨len, fun A outer s H args us vs Q E p c d room hot hz pin e0 bind vals hsp => ?_⟩
  obtain ⟨t, ht, hq⟩ := hbody cdv A outer s H vs Q E p c d hot hz (room.deeper _) hsp
  have low : ∀ b o, base.get? b = some o → s.heap.get? b = some o := fun b o e => (e0.bs b o e).1
  have KX : K.In s.heap := e0.mod.kin.keeps low
  have kinds : ∀ y ∈ ps.zip us, (defScope st).names.lookup y.1 = some .local ∨ ((defScope st).names.lookup y.1 = some .cell ∧ ((cellsFrom (s.heap.objs.size + 1) (defScope st).names []).lookup y.1).isSome = true) := fun y hy =>
    (S.par y.1 (List.of_mem_zip (show (y.1, y.2) ∈ ps.zip us from hy)).1).elim .inl fun q => .inr ⟨q, PySem.W.cellsFrom_some _ _ _ (.inl q)⟩
  refine codeAny_call_function room.depth (KX _ _ lk) rfl S.co S.gen rfl (PySem.W.codeRec_of KX hcd) (bind _ _ _ _ (wpAny_newFunctionEnv_cells S.kind kinds fun env he s1 inCall => ?_))
  subst he
  refine ⟨(e0.mod.nolimit.keeps low).keeps inCall.toInCall.keep, codeAny_func (wpAny_mono (ht.run [] s1 _ H _ (L2H.inv_startH S pin e0 (len _ _ _ _ _ _ _ hsp) vals inCall) hq) (fun fl s' hs => ?_) fun _ _ z => z)⟩
  cases fl with
  | next => obtain ⟨_, H', J, q⟩ := hs; exact ⟨.non, H', J.os, J.bare, J.base, J.hok, rfl, q⟩
  | ret u => obtain ⟨v, _, H', J, rv, q⟩ := hs; exact ⟨v, H', J.os, J.bare, J.base, J.hok, rv, q⟩
  | brk => obtain ⟨_, _, _, no⟩ := hs; exact no.elim
  | cont => obtain ⟨_, _, _, no⟩ := hs; exact no.elim
end
theorem takes0N {X : Cx} : L2N.Takes X (fun _ _ _ _ => False) := fun _ _ z => by
  obtain ⟨_, _, _, _, _, _, _, _, _, _, _, _, _, _, _, _, no⟩ := z
  exact no.elim
/-- f(e, ..) within the suite of the handler -/
def tCallE (sp : Sp) (t : TA) : TE := fun σ H Q => t σ H fun vs H1 => sp vs H1 Q (fun _ _ _ => False)
section
variable {X : Cx} {a : Addr} {oe : Obj} {cls : Value} {d : Option Addr} {pn : List (Addr × Obj)} {k : Nat} {f : Addr} {fd : FuncData} {ps : List Str} {sp : SpE} {x : Str} {q pos : Pos} {e : Expr} {es : List Expr} {t : TA}
theorem pe_callE (F : FnE X.prog X.w X.K X.mg X.base k f fd ps sp) (hr : Room k X.A) (hz : L2N.Zn cls d oe) (hf : ∃ vs, oe.data = .fields vs) (hg : Gl (X.suite a ((a, oe) :: pn)) x) (hm : X.mg x = some (.ref f)) (hk : PySem.W.keepIn X.K (.ref f) = true) (hb : Binds X.K fd ps [])
    (ha : PA (X.suite a ((a, oe) :: pn)) (e :: es) t) (hdb : (x == ("__debug__" : Str)) = false := by decide) (he : starEach (e :: es) X.env = (false, eval e X.env) :: starEach es X.env := by rfl) (hpl : (backTo pos (starEach es X.env)).any (·.1) = false := by rfl) :
    PE (X.suite a ((a, oe) :: pn)) (.Call (.Name x q) (e :: es) [] pos) (tCallE (sp a cls d) t) := by
  refine ⟨fun pins s σ H Q I h => wpAny_Call_Name_kw (ld_glob I hg hm (PySem.W.callWith_K (h₀ := X.base) I.ok.mod.kin hk (thn (ha.run pos pins s σ H _ I h) fun us s1 ⟨vs, H1, I1, r, go⟩ => ⟨I1.kIn, ?_⟩) he hpl) hdb)⟩
  obtain ⟨fs, hd⟩ := hf
  obtain ⟨g1, g2, g3, g4, g5⟩ := I1.pin (a, oe) (List.mem_append_left _ (.head _))
  have len : us.length = ps.length := r.length.symm.trans (F.len _ _ _ _ _ _ _ go)
  have bind := hb s1 us I1.kIn (by rw [List.append_nil]; exact len)
  rw [List.append_nil] at bind
  refine wpAny_call (codeAny_mono (F.run _ X.stack s1 H1 ⟨us, []⟩ us vs Q _ (a, oe) cls d (L2H.roomH_mark hr _) ⟨rfl, fs, hd, hz.2.2 fs hd⟩ hz ⟨g1, g2, fun hm => (List.mem_cons.mp (I1.stkSub a hm)).elim g3 g4, g5⟩ I1.env0 bind r go) fun res s' z => ?_)
  rcases res with er | fl
  · exact z.elim
  · cases fl with
    | ret u => exact I1.after z
    | next => exact z.elim
    | brk => exact z.elim
    | cont => exact z.elim
end
/-! ## what is asked of an exception: where it stands is left open -/
def rIsG (K : PySem.W.Frag) (R : Addr → Addr → V → Hp → Prop) : List V → Hp → VK → Prop := fun xs H Q => ∃ (a D : Addr) (v c : V) (cv : Value) (b : Bool), xs = [.ref a, c] ∧ R D a v H ∧ ClsV c cv ∧ PySem.W.kitOne K (.ref D) cv = some b ∧ Q (.bl b) H
def tValG (P : Program) (K : PySem.W.Frag) (mg : Str → Option Value) (R : Addr → Addr → V → Hp → Prop) (te : TE) : TE := fun σ H Q => te σ H fun x H1 => ∃ (a : Addr) (xn : Str) (C fI : Addr) (v : V), x = .ref a ∧ PySem.VeX.VeTxt P K mg xn C fI ∧ R C a v H1 ∧ Q v H1
/-- the exception at a0, as the context knows it -/
def IsErrP (K : PySem.W.Frag) (a0 : Addr) (cls : Value) (d : Option Addr) (D a : Addr) (v : V) (H : Hp) : Prop := a = a0 ∧ cls = .ref D ∧ ExcC K D ∧ ∃ dd, d = some dd ∧ H dd = some (.xd [(("value" : Str), v)])
theorem IsErrP.same {K : PySem.W.Frag} {a0 D a : Addr} {cls : Value} {d : Option Addr} {v : V} {H H' : Hp} (h : IsErrP K a0 cls d D a v H) (s : Same H H') : IsErrP K a0 cls d D a v H' := by
  obtain ⟨e1, e2, c, dd, e3, h3⟩ := h
  exact ⟨e1, e2, c, dd, e3, s _ _ h3⟩
section
variable {X : Cx} {a0 : Addr} {oe : Obj} {cls : Value} {d : Option Addr}
theorem errP_inst {pins : List (Addr × Obj)} {σ : L2.St} {H : Hp} {s : Shared} {D a : Addr} {v : V} (hp : (a0, oe) ∈ X.pn) (hz : L2N.Zn cls d oe) (hf : ∃ vs, oe.data = .fields vs) (I : Inv X pins σ H s) (h : IsErrP X.K a0 cls d D a v H) :
    ∃ od dd, PySem.W.InstAt s.heap a oe D (some od) ∧ H dd = some (.xd [(("value" : Str), v)]) ∧ s.heap.get? dd = some od := by
  obtain ⟨rfl, e2, _, dd, e3, h3⟩ := h
  obtain ⟨fs, hd⟩ := hf
  have x : ObjOk X.prog X.w H s.heap dd (.xd [(("value" : Str), v)]) := I.hok dd _ h3
  obtain ⟨mA, ns, _⟩ := x
  obtain ⟨od, ho, _⟩ := lookIn_ns ns
  exact ⟨od, dd, ⟨(I.pin (a, oe) (List.mem_append_left _ hp)).1, hz.1.trans e2, by unfold PySem.W.notCls; rw [hd] <;> rfl, by rw [hz.2.1, e3]; exact ho⟩, h3, ho⟩
theorem call_isP (hp : (a0, oe) ∈ X.pn) (hz : L2N.Zn cls d oe) (hf : ∃ vs, oe.data = .fields vs) : CallR X (.builtin "isinstance") (rIsG X.K (IsErrP X.K a0 cls d)) := by
  intro pins s σ H xs us Q I r h
  obtain ⟨a, D, v, c, cv, b, rfl, he, hcv, e, q⟩ := h
  obtain ⟨u1, u2, rfl, r1, r2⟩ := vals2 r
  cases (show u1 = Value.ref a from r1)
  have e2 := hcv.eq r2
  subst e2
  obtain ⟨od, dd, J, _⟩ := errP_inst hp hz hf I he
  exact PySem.W.kia_one (kit_err he.2.2.1) I.kIn J e (fun z => nomatch z) fun tk => ⟨.bl b, H, I.kept (t' := tk) fun _ _ z => z, rfl, q⟩
theorem pe_valP {e : Expr} {te : TE} {pos : Pos} (hp : (a0, oe) ∈ X.pn) (hz : L2N.Zn cls d oe) (hf : ∃ vs, oe.data = .fields vs) (he : PE X e te) (hb : attributeBase e "value" X.env (eval e X.env) = eval e X.env := by rfl) :
    PE X (.Attribute e "value" pos) (tValG X.prog X.K X.mg (IsErrP X.K a0 cls d) te) := by
  refine ⟨fun pins s σ H Q I h => attr_of hb (thn (he.run pins s σ H _ I h) fun u s1 ⟨x, H1, I1, rx, a, xn, C, fI, v, ex, T, ie, q⟩ => ?_)⟩
  subst ex
  obtain rfl : u = Value.ref a := rx
  obtain ⟨od, dd, J, hd, ho⟩ := errP_inst hp hz hf I1 ie
  have x2 : ObjOk X.prog X.w H1 s1.heap dd (.xd [(("value" : Str), v)]) := I1.hok dd _ hd
  obtain ⟨mA, hns, hr⟩ := x2
  obtain ⟨od2, ho2, hl⟩ := lookIn_ns hns
  rw [ho] at ho2
  cases ho2
  have l : List.lookup ("value" : Str) [(("value" : Str), v)] = some v := by simp [List.lookup]
  obtain ⟨w, hu, ru⟩ := RelO.some_of (v := v) (o := mA "value") (by rw [← l]; exact hr "value")
  exact HandSPX.exc_get I1.kIn J T.ga T.gg T.exC (PySem.W.findObj_own T.hdC T.noN rfl (by rw [hl, hu])) (handed_of ru) ⟨v, H1, I1.tok _, ru, q⟩
end
end Rn

set_option Elab.async false
set_option linter.all false
set_option maxRecDepth 100000
set_option maxHeartbeats 4000000
/-! # what nest, attempts and flatten are to raise, as data -/
namespace Rn
open PySem PySem.Spec PyProof.Rows L2
def negF (ws : List Int) : Option Nat := ws.findIdx? fun x => decide (x < 0)
def errD (nm : Str) (i : Int) : PyData := .list [.str nm, .int i, .bool true]
def sizeErr (n : Int) : PyData := if 10000 < n then errD "TooManyAttempts" n else .none
def nestErr (ns ms : List Int) : PyData := match negF ns with
  | some i => errD "InvalidWait" (i : Nat)
  | none => match negF ms with
    | some i => errD "InvalidWait" (i : Nat)
    | none => sizeErr (((ns.length : Int) + 1) * ((ms.length : Int) + 1))
def attErr (Ls : List Lay) : PyData := match badAt Ls with
  | some i => errD "InvalidLayer" (i : Nat)
  | none => .none
def flatErr (Ls : List Lay) : PyData := match badAt Ls with
  | some i => errD "InvalidLayer" (i : Nat)
  | none => sizeErr (attOf Ls)
/-- a call at a door, and what it is to raise -/
def Door (H : Hp) (door : Int) (x y : V) (due : PyData) : Prop :=
  (door = 0 ∧ ∃ (p q : Addr) (ns ms : List Int), x = .ref p ∧ y = .ref q ∧ H p = some (.lst (ns.map V.int)) ∧ H q = some (.lst (ms.map V.int)) ∧ ns.length ≤ 20000 ∧ ms.length ≤ 20000 ∧ due = nestErr ns ms) ∨
  (door = 1 ∧ ∃ (a : Addr) (Ls : List Lay), x = .ref a ∧ NestAt H a Ls ∧ Ls.length ≤ 5000 ∧ (∀ L ∈ Ls, L.seen) ∧ due = attErr Ls) ∨
  (door = 2 ∧ ∃ (a : Addr) (Ls : List Lay), x = .ref a ∧ NestAt H a Ls ∧ Ls.length ≤ 5000 ∧ (∀ L ∈ Ls, L.seen) ∧ due = flatErr Ls)
theorem Door.same {H H' : Hp} {door : Int} {x y : V} {due : PyData} (h : Door H door x y due) (s : Same H H') : Door H' door x y due := by
  rcases h with ⟨h0, p, q, ns, ms, h1, h2, h3, h4, r⟩ | ⟨h0, p, Ls, h1, h2, r⟩ | ⟨h0, p, Ls, h1, h2, r⟩
  · exact .inl ⟨h0, p, q, ns, ms, h1, h2, s _ _ h3, s _ _ h4, r⟩
  · exact .inr (.inl ⟨h0, p, Ls, h1, h2.same s, r⟩)
  · exact .inr (.inr ⟨h0, p, Ls, h1, h2.same s, r⟩)
/-- what is caught: None, or the list of a name, a number, True -/
def RE (H : Hp) (v : V) (due : PyData) : Prop := (v = .non ∧ due = .none) ∨ ∃ (p : Addr) (nm : Str) (i : Int), v = .ref p ∧ due = errD nm i ∧ H p = some (.lst [.str nm, .int i, .bl true])
theorem RE.same {H H' : Hp} {v : V} {due : PyData} (h : RE H v due) (s : Same H H') : RE H' v due := by
  rcases h with h | ⟨p, nm, i, h1, h2, h3⟩
  · exact .inl h
  · exact .inr ⟨p, nm, i, h1, h2, s _ _ h3⟩
theorem seen_cnt {L : Lay} (h : L.seen) : L.cnt < 2 ^ 100 := by
  cases L with
  | pol ns =>
    obtain ⟨h1, _⟩ : ns.length ≤ 60 ∧ ∀ x ∈ ns, x.natAbs < 10 ^ 24 := h
    show (ns.length : Int) + 1 < _
    omega
  | con w n =>
    obtain ⟨_, h2⟩ : w.natAbs < 10 ^ 24 ∧ n.natAbs < 10 ^ 24 := h
    show n < _
    omega
theorem seen_pol {Ls : List Lay} (h : ∀ L ∈ Ls, L.seen) {ns : List Int} (hm : Lay.pol ns ∈ Ls) : ns.length ≤ 60 := (h _ hm).1
/-! ## a call that is asked for: its door and what it is given -/
def Asked (G : Hp) (v : V) : Prop := ∃ (t : Addr) (door : Int) (x y : V), v = .ref t ∧ G t = some (.tup [.int door, x, y]) ∧
  ((door = 0 ∧ ∃ (p q : Addr) (ns ms : List Int), x = .ref p ∧ y = .ref q ∧ G p = some (.lst (ns.map V.int)) ∧ G q = some (.lst (ms.map V.int)) ∧ ns.length ≤ 300 ∧ ms.length ≤ 300 ∧ (∀ z ∈ ns, z.natAbs < 10 ^ 24) ∧ ∀ z ∈ ms, z.natAbs < 10 ^ 24) ∨
   ((door = 1 ∨ door = 2) ∧ y = .non ∧ ∃ (a : Addr) (Ls : List Lay), x = .ref a ∧ NestAt G a Ls ∧ Ls.length ≤ 10 ∧ ∀ L ∈ Ls, L.seen))
theorem Asked.same {G G' : Hp} {v : V} (h : Asked G v) (s : Same G G') : Asked G' v := by
  obtain ⟨t, door, x, y, rfl, h1, h⟩ := h
  refine ⟨t, door, x, y, rfl, s _ _ h1, ?_⟩
  rcases h with ⟨e, p, q, ns, ms, a1, a2, a3, a4, r⟩ | ⟨e, a1, a, Ls, a2, a3, r⟩
  · exact .inl ⟨e, p, q, ns, ms, a1, a2, s _ _ a3, s _ _ a4, r⟩
  · exact .inr ⟨e, a1, a, Ls, a2, a3.same s, r⟩
theorem Asked.two {G : Hp} {t p q : Addr} {ns ms : List Int} (h : G t = some (.tup [.int 0, .ref p, .ref q])) (hp : G p = some (.lst (ns.map V.int))) (hq : G q = some (.lst (ms.map V.int))) (l1 : ns.length ≤ 300) (l2 : ms.length ≤ 300) (b1 : ∀ z ∈ ns, z.natAbs < 10 ^ 24) (b2 : ∀ z ∈ ms, z.natAbs < 10 ^ 24) : Asked G (.ref t) :=
  ⟨t, 0, _, _, rfl, h, .inl ⟨rfl, p, q, ns, ms, rfl, rfl, hp, hq, l1, l2, b1, b2⟩⟩
theorem Asked.one {G : Hp} {t a : Addr} {door : Int} {Ls : List Lay} (h : G t = some (.tup [.int door, .ref a, .non])) (hd : door = 1 ∨ door = 2) (hN : NestAt G a Ls) (hl : Ls.length ≤ 10) (hs : ∀ L ∈ Ls, L.seen) : Asked G (.ref t) :=
  ⟨t, door, _, _, rfl, h, .inr ⟨hd, rfl, a, Ls, rfl, hN, hl, hs⟩⟩
theorem shw_non : Shw .none 80 1 := ⟨by decide, by decide, by decide, by decide, by decide⟩
/-- what can be said of it: what is due, and what is written of its arguments -/
theorem Asked.all {K : PySem.W.Frag} {G : Hp} {v : V} (h : Asked G v) : ∃ (t : Addr) (door : Int) (x y : V) (due dx dy : PyData), v = .ref t ∧ G t = some (.tup [.int door, x, y]) ∧ Door G door x y due ∧ Dp K G x dx ∧ Dp K G y dy ∧ Shw (.list [dx, dy]) (2 * (48610 + 1)) 4 := by
  obtain ⟨t, door, x, y, rfl, h1, h⟩ := h
  rcases h with ⟨rfl, p, q, ns, ms, rfl, rfl, a3, a4, l1, l2, b1, b2⟩ | ⟨e, rfl, a, Ls, rfl, hN, hl, hs⟩
  · refine ⟨t, 0, _, _, _, dInts ns, dInts ms, rfl, h1, .inl ⟨rfl, p, q, ns, ms, rfl, rfl, a3, a4, by omega, by omega, rfl⟩, dp_ints (sql a3), dp_ints (sql a4), Shw.two ?_ ?_⟩
    · exact (Shw.nums b1).mono (by omega) (by decide)
    · exact (Shw.nums b2).mono (by omega) (by decide)
  · have sh : Shw (.list (Ls.map Lay.dat)) 48610 3 := (Shw.nestF hs hl).mono (by decide) (Nat.le_refl _)
    have two := Shw.two sh (shw_non.mono (by decide) (by decide))
    rcases e with rfl | rfl
    · exact ⟨t, 1, _, _, _, _, .none, rfl, h1, .inr (.inl ⟨rfl, a, Ls, rfl, hN, by omega, hs, rfl⟩), dp_nest hN, .non, two⟩
    · exact ⟨t, 2, _, _, _, _, .none, rfl, h1, .inr (.inr ⟨rfl, a, Ls, rfl, hN, by omega, hs, rfl⟩), dp_nest hN, .non, two⟩
def AskL (G : Hp) (us : List V) : Prop := ∀ v ∈ us, Asked G v
theorem AskL.same {G G' : Hp} {us : List V} (h : AskL G us) (s : Same G G') : AskL G' us := fun v hv => (h v hv).same s
theorem AskL.app {G : Hp} {us vs : List V} (h : AskL G us) (h2 : AskL G vs) : AskL G (us ++ vs) := fun v hv => (List.mem_append.mp hv).elim (h v) (h2 v)
theorem AskL.nil {G : Hp} : AskL G [] := fun v hv => by cases hv
theorem AskL.cons {G : Hp} {v : V} {us : List V} (h : Asked G v) (h2 : AskL G us) : AskL G (v :: us) := fun u hu => by
  rcases List.mem_cons.mp hu with rfl | hu
  · exact h
  · exact h2 u hu
def CallsAt (G : Hp) (c : Addr) (n : Nat) : Prop := ∃ us, G c = some (.lst us) ∧ us.length ≤ n ∧ AskL G us
theorem CallsAt.same {G G' : Hp} {c : Addr} {n : Nat} (h : CallsAt G c n) (s : Same G G') : CallsAt G' c n := by
  obtain ⟨us, h1, h2, h3⟩ := h
  exact ⟨us, s _ _ h1, h2, h3.same s⟩
/-- a policy that can be shown -/
def PolAt (G : Hp) (p : Addr) : Prop := ∃ ws : List Int, G p = some (.lst (ws.map V.int)) ∧ ws.length ≤ 300 ∧ ∀ z ∈ ws, z.natAbs < 10 ^ 24
theorem PolAt.same {G G' : Hp} {p : Addr} (h : PolAt G p) (s : Same G G') : PolAt G' p := by
  obtain ⟨ws, h1, h2⟩ := h
  exact ⟨ws, s _ _ h1, h2⟩
theorem Asked.pols {G : Hp} {t p q : Addr} (h : G t = some (.tup [.int 0, .ref p, .ref q])) (hp : PolAt G p) (hq : PolAt G q) : Asked G (.ref t) := by
  obtain ⟨ns, a1, a2, a3⟩ := hp
  obtain ⟨ms, b1, b2, b3⟩ := hq
  exact .two h a1 b1 a2 b2 a3 b3
def PolsAt (G : Hp) (D : Addr) (i : Nat) : Prop := ∃ ps : List Addr, G D = some (.lst (ps.map V.ref)) ∧ ps.length = i ∧ ∀ p ∈ ps, PolAt G p ∧ p ≠ D
theorem PolsAt.nil {G : Hp} {D : Addr} : PolsAt (upd G D (.lst [])) D 0 := ⟨[], upd_same, rfl, fun p hp => by cases hp⟩
theorem PolsAt.same {G G' : Hp} {D : Addr} {i : Nat} (h : PolsAt G D i) (s : Same G G') : PolsAt G' D i := by
  obtain ⟨ps, h1, h2, h3⟩ := h
  exact ⟨ps, s _ _ h1, h2, fun p hp => ⟨(h3 p hp).1.same s, (h3 p hp).2⟩⟩
theorem PolsAt.push {a d D p : Addr} {H : Hp} {i : Nat} (h : PolsAt (hid a d H) D i) (na : D ≠ a) (nd : D ≠ d) (hp : PolAt (hid a d H) p) (ne : p ≠ D) :
    ∃ acc, H D = some (.lst acc) ∧ acc.length = i ∧ PolsAt (hid a d (upd H D (.lst (acc ++ [.ref p])))) D (i + 1) := by
  obtain ⟨ps, h1, h2, h3⟩ := h
  refine ⟨_, (hid_get h1).1, by rw [List.length_map, h2], ps ++ [p], ?_, by rw [List.length_append, h2]; rfl, fun q hq => ?_⟩
  · rw [hid_oth na nd, upd_same, List.map_append]
    rfl
  · rw [hid_oth na nd]
    have key : PolAt (hid a d H) q ∧ q ≠ D := by
      rcases List.mem_append.mp hq with z | z
      · exact h3 q z
      · rw [List.mem_singleton.mp z]
        exact ⟨hp, ne⟩
    obtain ⟨⟨ws, e, r⟩, nq⟩ := key
    exact ⟨⟨ws, by rw [upd_ne nq]; exact e, r⟩, nq⟩
theorem PolsAt.two {G : Hp} {D : Addr} (h : PolsAt G D 2) : ∃ p q : Addr, G D = some (.lst [.ref p, .ref q]) ∧ PolAt G p ∧ PolAt G q := by
  obtain ⟨ps, h1, h2, h3⟩ := h
  match ps, h2 with
  | [p, q], _ => exact ⟨p, q, h1, (h3 p (by simp)).1, (h3 q (by simp)).1⟩
theorem PolsAt.four {G : Hp} {D : Addr} (h : PolsAt G D 4) : ∃ p q r s : Addr, G D = some (.lst [.ref p, .ref q, .ref r, .ref s]) ∧ PolAt G p ∧ PolAt G q ∧ PolAt G r ∧ PolAt G s := by
  obtain ⟨ps, h1, h2, h3⟩ := h
  match ps, h2 with
  | [p, q, r, s], _ => exact ⟨p, q, r, s, h1, (h3 p (by simp)).1, (h3 q (by simp)).1, (h3 r (by simp)).1, (h3 s (by simp)).1⟩
theorem unhid {a d : Addr} {H : Hp} : Same (hid a d H) H := fun b o e => (hid_get e).1
theorem pol_rep {G : Hp} {p : Addr} {m : Nat} {w : Int} (h : G p = some (.lst ((List.replicate m w).map V.int))) (hm : m ≤ 300) (hw : w.natAbs < 10 ^ 24) : PolAt G p :=
  ⟨_, h, by rw [List.length_replicate]; exact hm, fun z hz => by rw [List.eq_of_mem_replicate hz]; exact hw⟩
theorem ne_hidV {a d f x : Addr} {H : Hp} {o : HO} (e : hid a d H f = some o) (h : H x = none) : x ≠ f := fun z => by
  rw [z, (hid_get e).1] at h
  cases h
end Rn


namespace Rn
open PySem PySem.Spec PyProof.Rows L2
/-! ## the text -/
def topS (i : Nat) : Stmt := PySem.Challenge.pw_retrynest_k04_policy_errors.main.body.getD i (.Pass ⟨0, 0, 0, 0⟩)
abbrev s_first_negative : Stmt := topS 9
abbrev s_check_waits : Stmt := topS 10
abbrev s_is_valid_layer : Stmt := topS 11
abbrev s_check_nesting : Stmt := topS 12
abbrev s_check_size : Stmt := topS 15
abbrev s_nested : Stmt := topS 16
abbrev s_nest : Stmt := topS 17
abbrev s_layer_attempts : Stmt := topS 18
abbrev s_layer_waits : Stmt := topS 19
abbrev s_attempts : Stmt := topS 20
abbrev s_flatten : Stmt := topS 21
abbrev s_law_source : Stmt := topS 23
abbrev s_law_draw : Stmt := topS 24
abbrev s_law_same : Stmt := topS 25
abbrev s_law_wait_drawn : Stmt := topS 26
abbrev s_law_policy : Stmt := topS 27
abbrev s_law_nesting : Stmt := topS 28
abbrev s_law_total : Stmt := topS 30
abbrev s_law_error : Stmt := topS 32
abbrev s_law_raised : Stmt := topS 33
abbrev s_law_below : Stmt := topS 34
abbrev s_law_spoilt_waits : Stmt := topS 35
abbrev s_law_spoilt_layers : Stmt := topS 36
abbrev s_law_first_bad : Stmt := topS 37
abbrev s_law_due : Stmt := topS 38
abbrev s_law_two_errors : Stmt := topS 39
abbrev s_law : Stmt := topS 40
theorem sc_first_negative : FnScope ["waits", "index", "wait"] ["waits"] (defScope s_first_negative) := ⟨rfl, rfl, rfl, by decide +kernel, rfl, by decide +kernel, by decide +kernel⟩
theorem sc_check_waits : FnScope ["waits", "index"] ["waits"] (defScope s_check_waits) := ⟨rfl, rfl, rfl, by decide +kernel, rfl, by decide +kernel, by decide +kernel⟩
theorem sc_is_valid_layer : FnScope ["layer", "wait", "count"] ["layer"] (defScope s_is_valid_layer) := ⟨rfl, rfl, rfl, by decide +kernel, rfl, by decide +kernel, by decide +kernel⟩
theorem sc_check_nesting : FnScope ["nesting", "index", "layer"] ["nesting"] (defScope s_check_nesting) := ⟨rfl, rfl, rfl, by decide +kernel, rfl, by decide +kernel, by decide +kernel⟩
theorem sc_check_size : FnScope ["total"] ["total"] (defScope s_check_size) := ⟨rfl, rfl, rfl, by decide +kernel, rfl, by decide +kernel, by decide +kernel⟩
theorem sc_nested : FnScope ["inner", "outer", "waits", "wait"] ["inner", "outer"] (defScope s_nested) := ⟨rfl, rfl, rfl, by decide +kernel, rfl, by decide +kernel, by decide +kernel⟩
theorem sc_nest : FnScope ["inner", "outer"] ["inner", "outer"] (defScope s_nest) := ⟨rfl, rfl, rfl, by decide +kernel, rfl, by decide +kernel, by decide +kernel⟩
theorem sc_layer_attempts : FnScope ["layer"] ["layer"] (defScope s_layer_attempts) := ⟨rfl, rfl, rfl, by decide +kernel, rfl, by decide +kernel, by decide +kernel⟩
theorem sc_layer_waits : FnScope ["layer", "wait", "count"] ["layer"] (defScope s_layer_waits) := ⟨rfl, rfl, rfl, by decide +kernel, rfl, by decide +kernel, by decide +kernel⟩
theorem sc_attempts : FnScope ["nesting", "total", "layer"] ["nesting"] (defScope s_attempts) := ⟨rfl, rfl, rfl, by decide +kernel, rfl, by decide +kernel, by decide +kernel⟩
theorem sc_flatten : FnScope ["nesting", "waits", "layer"] ["nesting"] (defScope s_flatten) := ⟨rfl, rfl, rfl, by decide +kernel, rfl, by decide +kernel, by decide +kernel⟩
theorem sc_law_source : FnScope ["script", "mix", "digits", "cell", "size"] ["script"] (defScope s_law_source) := ⟨rfl, rfl, rfl, by decide +kernel, rfl, by decide +kernel, by decide +kernel⟩
theorem sc_law_draw : FnScope ["source", "many", "drawn", "mixed"] ["source", "many"] (defScope s_law_draw) := ⟨rfl, rfl, rfl, by decide +kernel, rfl, by decide +kernel, by decide +kernel⟩
theorem sc_law_same : FnScope ["found", "wanted", "k"] ["found", "wanted"] (defScope s_law_same) := ⟨rfl, rfl, rfl, by decide +kernel, rfl, by decide +kernel, by decide +kernel⟩
theorem sc_law_wait_drawn : FnScope ["source", "some"] ["source"] (defScope s_law_wait_drawn) := ⟨rfl, rfl, rfl, by decide +kernel, rfl, by decide +kernel, by decide +kernel⟩
theorem sc_law_policy : FnScope ["source", "most", "kinds", "found", "k"] ["source", "most"] (defScope s_law_policy) := ⟨rfl, rfl, rfl, by decide +kernel, rfl, by decide +kernel, by decide +kernel⟩
theorem sc_law_nesting : FnScope ["source", "layers", "most", "found", "left", "k", "some", "size"] ["source", "layers", "most"] (defScope s_law_nesting) := ⟨rfl, rfl, rfl, by decide +kernel, rfl, by decide +kernel, by decide +kernel⟩
theorem sc_law_total : FnScope ["layers", "found", "layer"] ["layers"] (defScope s_law_total) := ⟨rfl, rfl, rfl, by decide +kernel, rfl, by decide +kernel, by decide +kernel⟩
theorem sc_law_error : FnScope ["e", "held", "names", "name", "is_one"] ["e"] (defScope s_law_error) := ⟨rfl, rfl, rfl, by decide +kernel, rfl, by decide +kernel, by decide +kernel⟩
theorem sc_law_raised : FnScope ["door", "one", "other", "caught", "e"] ["door", "one", "other"] (defScope s_law_raised) := ⟨rfl, rfl, rfl, by decide +kernel, rfl, by decide +kernel, by decide +kernel⟩
theorem sc_law_below : FnScope ["source"] ["source"] (defScope s_law_below) := ⟨rfl, rfl, rfl, by decide +kernel, rfl, by decide +kernel, by decide +kernel⟩
theorem sc_law_spoilt_waits : FnScope ["source", "some", "found", "time"] ["source", "some"] (defScope s_law_spoilt_waits) := ⟨rfl, rfl, rfl, by decide +kernel, rfl, by decide +kernel, by decide +kernel⟩
theorem sc_law_spoilt_layers : FnScope ["source", "layers", "found", "time", "wait", "bad"] ["source", "layers"] (defScope s_law_spoilt_layers) := ⟨rfl, rfl, rfl, by decide +kernel, rfl, by decide +kernel, by decide +kernel⟩
theorem sc_law_first_bad : FnScope ["layers", "index", "part", "numbers", "number"] ["layers"] (defScope s_law_first_bad) := ⟨rfl, rfl, rfl, by decide +kernel, rfl, by decide +kernel, by decide +kernel⟩
theorem sc_law_due : FnScope ["door", "one", "other", "some", "total", "bad", "wait", "k"] ["door", "one", "other"] (defScope s_law_due) := ⟨rfl, rfl, rfl, by decide +kernel, rfl, by decide +kernel, by decide +kernel⟩
theorem sc_law_two_errors : FnScope ["source", "bad", "time", "large", "found"] ["source"] (defScope s_law_two_errors) := ⟨rfl, rfl, rfl, by decide +kernel, rfl, by decide +kernel, by decide +kernel⟩
theorem sc_law : FnScope ["script", "source", "made", "names", "values", "k", "sizes", "long", "calls", "some", "time", "layers", "first", "near", "door", "one", "other", "saved", "e", "size"] ["script"] (defScope s_law) := ⟨rfl, rfl, rfl, by decide +kernel, rfl, by decide +kernel, by decide +kernel⟩
/-! ## what the top has written -/
structure Txt (P : Program) (K : PySem.W.Frag) (mg : Str → Option Value) where
  C_InvalidLayer : Addr
  I_InvalidLayer : Addr
  V_InvalidLayer : PySem.VeX.VeTxt P K mg "InvalidLayer" C_InvalidLayer I_InvalidLayer
  C_InvalidNumber : Addr
  I_InvalidNumber : Addr
  V_InvalidNumber : PySem.VeX.VeTxt P K mg "InvalidNumber" C_InvalidNumber I_InvalidNumber
  C_InvalidWait : Addr
  I_InvalidWait : Addr
  V_InvalidWait : PySem.VeX.VeTxt P K mg "InvalidWait" C_InvalidWait I_InvalidWait
  C_NoMoreAttempts : Addr
  I_NoMoreAttempts : Addr
  V_NoMoreAttempts : PySem.VeX.VeTxt P K mg "NoMoreAttempts" C_NoMoreAttempts I_NoMoreAttempts
  C_TooManyAttempts : Addr
  I_TooManyAttempts : Addr
  V_TooManyAttempts : PySem.VeX.VeTxt P K mg "TooManyAttempts" C_TooManyAttempts I_TooManyAttempts
  C_Unreadable : Addr
  I_Unreadable : Addr
  V_Unreadable : PySem.VeX.VeTxt P K mg "Unreadable" C_Unreadable I_Unreadable
  C_RetryError : Addr
  g_RetryError : mg "RetryError" = some (.ref C_RetryError)
  q_InvalidLayer : mg "InvalidLayer" = some (.ref C_InvalidLayer)
  q_InvalidNumber : mg "InvalidNumber" = some (.ref C_InvalidNumber)
  q_InvalidWait : mg "InvalidWait" = some (.ref C_InvalidWait)
  q_NoMoreAttempts : mg "NoMoreAttempts" = some (.ref C_NoMoreAttempts)
  q_TooManyAttempts : mg "TooManyAttempts" = some (.ref C_TooManyAttempts)
  q_Unreadable : mg "Unreadable" = some (.ref C_Unreadable)
  X_InvalidLayer : ExcC K C_InvalidLayer
  X_InvalidNumber : ExcC K C_InvalidNumber
  X_InvalidWait : ExcC K C_InvalidWait
  X_NoMoreAttempts : ExcC K C_NoMoreAttempts
  X_TooManyAttempts : ExcC K C_TooManyAttempts
  X_Unreadable : ExcC K C_Unreadable
  te_InvalidLayer_RetryError : PySem.W.exmOne K (.ref C_InvalidLayer) (.ref C_RetryError) = some true
  te_InvalidNumber_RetryError : PySem.W.exmOne K (.ref C_InvalidNumber) (.ref C_RetryError) = some true
  te_InvalidWait_RetryError : PySem.W.exmOne K (.ref C_InvalidWait) (.ref C_RetryError) = some true
  te_NoMoreAttempts_RetryError : PySem.W.exmOne K (.ref C_NoMoreAttempts) (.ref C_RetryError) = some true
  te_TooManyAttempts_RetryError : PySem.W.exmOne K (.ref C_TooManyAttempts) (.ref C_RetryError) = some true
  te_Unreadable_RetryError : PySem.W.exmOne K (.ref C_Unreadable) (.ref C_RetryError) = some true
  is_InvalidLayer_InvalidNumber : PySem.W.kitOne K (.ref C_InvalidLayer) (.ref C_InvalidNumber) = some false
  is_InvalidLayer_InvalidWait : PySem.W.kitOne K (.ref C_InvalidLayer) (.ref C_InvalidWait) = some false
  is_InvalidLayer_NoMoreAttempts : PySem.W.kitOne K (.ref C_InvalidLayer) (.ref C_NoMoreAttempts) = some false
  is_InvalidLayer_RetryError : PySem.W.kitOne K (.ref C_InvalidLayer) (.ref C_RetryError) = some true
  is_InvalidLayer_TooManyAttempts : PySem.W.kitOne K (.ref C_InvalidLayer) (.ref C_TooManyAttempts) = some false
  is_InvalidLayer_Unreadable : PySem.W.kitOne K (.ref C_InvalidLayer) (.ref C_Unreadable) = some false
  is_InvalidNumber_InvalidLayer : PySem.W.kitOne K (.ref C_InvalidNumber) (.ref C_InvalidLayer) = some false
  is_InvalidNumber_InvalidWait : PySem.W.kitOne K (.ref C_InvalidNumber) (.ref C_InvalidWait) = some false
  is_InvalidNumber_NoMoreAttempts : PySem.W.kitOne K (.ref C_InvalidNumber) (.ref C_NoMoreAttempts) = some false
  is_InvalidNumber_RetryError : PySem.W.kitOne K (.ref C_InvalidNumber) (.ref C_RetryError) = some true
  is_InvalidNumber_TooManyAttempts : PySem.W.kitOne K (.ref C_InvalidNumber) (.ref C_TooManyAttempts) = some false
  is_InvalidNumber_Unreadable : PySem.W.kitOne K (.ref C_InvalidNumber) (.ref C_Unreadable) = some false
  is_InvalidWait_InvalidLayer : PySem.W.kitOne K (.ref C_InvalidWait) (.ref C_InvalidLayer) = some false
  is_InvalidWait_InvalidNumber : PySem.W.kitOne K (.ref C_InvalidWait) (.ref C_InvalidNumber) = some false
  is_InvalidWait_NoMoreAttempts : PySem.W.kitOne K (.ref C_InvalidWait) (.ref C_NoMoreAttempts) = some false
  is_InvalidWait_RetryError : PySem.W.kitOne K (.ref C_InvalidWait) (.ref C_RetryError) = some true
  is_InvalidWait_TooManyAttempts : PySem.W.kitOne K (.ref C_InvalidWait) (.ref C_TooManyAttempts) = some false
  is_InvalidWait_Unreadable : PySem.W.kitOne K (.ref C_InvalidWait) (.ref C_Unreadable) = some false
  is_NoMoreAttempts_InvalidLayer : PySem.W.kitOne K (.ref C_NoMoreAttempts) (.ref C_InvalidLayer) = some false
  is_NoMoreAttempts_InvalidNumber : PySem.W.kitOne K (.ref C_NoMoreAttempts) (.ref C_InvalidNumber) = some false
  is_NoMoreAttempts_InvalidWait : PySem.W.kitOne K (.ref C_NoMoreAttempts) (.ref C_InvalidWait) = some false
  is_NoMoreAttempts_RetryError : PySem.W.kitOne K (.ref C_NoMoreAttempts) (.ref C_RetryError) = some true
  is_NoMoreAttempts_TooManyAttempts : PySem.W.kitOne K (.ref C_NoMoreAttempts) (.ref C_TooManyAttempts) = some false
  is_NoMoreAttempts_Unreadable : PySem.W.kitOne K (.ref C_NoMoreAttempts) (.ref C_Unreadable) = some false
  is_TooManyAttempts_InvalidLayer : PySem.W.kitOne K (.ref C_TooManyAttempts) (.ref C_InvalidLayer) = some false
  is_TooManyAttempts_InvalidNumber : PySem.W.kitOne K (.ref C_TooManyAttempts) (.ref C_InvalidNumber) = some false
  is_TooManyAttempts_InvalidWait : PySem.W.kitOne K (.ref C_TooManyAttempts) (.ref C_InvalidWait) = some false
  is_TooManyAttempts_NoMoreAttempts : PySem.W.kitOne K (.ref C_TooManyAttempts) (.ref C_NoMoreAttempts) = some false
  is_TooManyAttempts_RetryError : PySem.W.kitOne K (.ref C_TooManyAttempts) (.ref C_RetryError) = some true
  is_TooManyAttempts_Unreadable : PySem.W.kitOne K (.ref C_TooManyAttempts) (.ref C_Unreadable) = some false
  is_Unreadable_InvalidLayer : PySem.W.kitOne K (.ref C_Unreadable) (.ref C_InvalidLayer) = some false
  is_Unreadable_InvalidNumber : PySem.W.kitOne K (.ref C_Unreadable) (.ref C_InvalidNumber) = some false
  is_Unreadable_InvalidWait : PySem.W.kitOne K (.ref C_Unreadable) (.ref C_InvalidWait) = some false
  is_Unreadable_NoMoreAttempts : PySem.W.kitOne K (.ref C_Unreadable) (.ref C_NoMoreAttempts) = some false
  is_Unreadable_RetryError : PySem.W.kitOne K (.ref C_Unreadable) (.ref C_RetryError) = some true
  is_Unreadable_TooManyAttempts : PySem.W.kitOne K (.ref C_Unreadable) (.ref C_TooManyAttempts) = some false
  f_first_negative : Addr
  d_first_negative : FuncData
  F_first_negative : Fun K "first_negative" "first_negative" s_first_negative f_first_negative d_first_negative
  g_first_negative : mg "first_negative" = some (.ref f_first_negative)
  b_first_negative : Binds K d_first_negative ["waits"] []
  f_check_waits : Addr
  d_check_waits : FuncData
  F_check_waits : Fun K "check_waits" "check_waits" s_check_waits f_check_waits d_check_waits
  g_check_waits : mg "check_waits" = some (.ref f_check_waits)
  b_check_waits : Binds K d_check_waits ["waits"] []
  f_is_valid_layer : Addr
  d_is_valid_layer : FuncData
  F_is_valid_layer : Fun K "is_valid_layer" "is_valid_layer" s_is_valid_layer f_is_valid_layer d_is_valid_layer
  g_is_valid_layer : mg "is_valid_layer" = some (.ref f_is_valid_layer)
  b_is_valid_layer : Binds K d_is_valid_layer ["layer"] []
  f_check_nesting : Addr
  d_check_nesting : FuncData
  F_check_nesting : Fun K "check_nesting" "check_nesting" s_check_nesting f_check_nesting d_check_nesting
  g_check_nesting : mg "check_nesting" = some (.ref f_check_nesting)
  b_check_nesting : Binds K d_check_nesting ["nesting"] []
  f_check_size : Addr
  d_check_size : FuncData
  F_check_size : Fun K "check_size" "check_size" s_check_size f_check_size d_check_size
  g_check_size : mg "check_size" = some (.ref f_check_size)
  b_check_size : Binds K d_check_size ["total"] []
  f_nested : Addr
  d_nested : FuncData
  F_nested : Fun K "nested" "nested" s_nested f_nested d_nested
  g_nested : mg "nested" = some (.ref f_nested)
  b_nested : Binds K d_nested ["inner", "outer"] []
  f_nest : Addr
  d_nest : FuncData
  F_nest : Fun K "nest" "nest" s_nest f_nest d_nest
  g_nest : mg "nest" = some (.ref f_nest)
  b_nest : Binds K d_nest ["inner", "outer"] []
  f_layer_attempts : Addr
  d_layer_attempts : FuncData
  F_layer_attempts : Fun K "layer_attempts" "layer_attempts" s_layer_attempts f_layer_attempts d_layer_attempts
  g_layer_attempts : mg "layer_attempts" = some (.ref f_layer_attempts)
  b_layer_attempts : Binds K d_layer_attempts ["layer"] []
  f_layer_waits : Addr
  d_layer_waits : FuncData
  F_layer_waits : Fun K "layer_waits" "layer_waits" s_layer_waits f_layer_waits d_layer_waits
  g_layer_waits : mg "layer_waits" = some (.ref f_layer_waits)
  b_layer_waits : Binds K d_layer_waits ["layer"] []
  f_attempts : Addr
  d_attempts : FuncData
  F_attempts : Fun K "attempts" "attempts" s_attempts f_attempts d_attempts
  g_attempts : mg "attempts" = some (.ref f_attempts)
  b_attempts : Binds K d_attempts ["nesting"] []
  f_flatten : Addr
  d_flatten : FuncData
  F_flatten : Fun K "flatten" "flatten" s_flatten f_flatten d_flatten
  g_flatten : mg "flatten" = some (.ref f_flatten)
  b_flatten : Binds K d_flatten ["nesting"] []
  f_law_source : Addr
  d_law_source : FuncData
  F_law_source : Fun K "_law_source" "_law_source" s_law_source f_law_source d_law_source
  g_law_source : mg "_law_source" = some (.ref f_law_source)
  b_law_source : Binds K d_law_source ["script"] []
  f_law_draw : Addr
  d_law_draw : FuncData
  F_law_draw : Fun K "_law_draw" "_law_draw" s_law_draw f_law_draw d_law_draw
  g_law_draw : mg "_law_draw" = some (.ref f_law_draw)
  b_law_draw : Binds K d_law_draw ["source", "many"] []
  f_law_same : Addr
  d_law_same : FuncData
  F_law_same : Fun K "_law_same" "_law_same" s_law_same f_law_same d_law_same
  g_law_same : mg "_law_same" = some (.ref f_law_same)
  b_law_same : Binds K d_law_same ["found", "wanted"] []
  f_law_wait_drawn : Addr
  d_law_wait_drawn : FuncData
  F_law_wait_drawn : Fun K "_law_wait_drawn" "_law_wait_drawn" s_law_wait_drawn f_law_wait_drawn d_law_wait_drawn
  g_law_wait_drawn : mg "_law_wait_drawn" = some (.ref f_law_wait_drawn)
  b_law_wait_drawn : Binds K d_law_wait_drawn ["source"] []
  f_law_policy : Addr
  d_law_policy : FuncData
  F_law_policy : Fun K "_law_policy" "_law_policy" s_law_policy f_law_policy d_law_policy
  g_law_policy : mg "_law_policy" = some (.ref f_law_policy)
  b_law_policy : Binds K d_law_policy ["source", "most"] []
  f_law_nesting : Addr
  d_law_nesting : FuncData
  F_law_nesting : Fun K "_law_nesting" "_law_nesting" s_law_nesting f_law_nesting d_law_nesting
  g_law_nesting : mg "_law_nesting" = some (.ref f_law_nesting)
  b_law_nesting : Binds K d_law_nesting ["source", "layers", "most"] []
  f_law_total : Addr
  d_law_total : FuncData
  F_law_total : Fun K "_law_total" "_law_total" s_law_total f_law_total d_law_total
  g_law_total : mg "_law_total" = some (.ref f_law_total)
  b_law_total : Binds K d_law_total ["layers"] []
  f_law_error : Addr
  d_law_error : FuncData
  F_law_error : Fun K "_law_error" "_law_error" s_law_error f_law_error d_law_error
  g_law_error : mg "_law_error" = some (.ref f_law_error)
  b_law_error : Binds K d_law_error ["e"] []
  f_law_raised : Addr
  d_law_raised : FuncData
  F_law_raised : Fun K "_law_raised" "_law_raised" s_law_raised f_law_raised d_law_raised
  g_law_raised : mg "_law_raised" = some (.ref f_law_raised)
  b_law_raised : Binds K d_law_raised ["door", "one", "other"] []
  f_law_below : Addr
  d_law_below : FuncData
  F_law_below : Fun K "_law_below" "_law_below" s_law_below f_law_below d_law_below
  g_law_below : mg "_law_below" = some (.ref f_law_below)
  b_law_below : Binds K d_law_below ["source"] []
  f_law_spoilt_waits : Addr
  d_law_spoilt_waits : FuncData
  F_law_spoilt_waits : Fun K "_law_spoilt_waits" "_law_spoilt_waits" s_law_spoilt_waits f_law_spoilt_waits d_law_spoilt_waits
  g_law_spoilt_waits : mg "_law_spoilt_waits" = some (.ref f_law_spoilt_waits)
  b_law_spoilt_waits : Binds K d_law_spoilt_waits ["source", "some"] []
  f_law_spoilt_layers : Addr
  d_law_spoilt_layers : FuncData
  F_law_spoilt_layers : Fun K "_law_spoilt_layers" "_law_spoilt_layers" s_law_spoilt_layers f_law_spoilt_layers d_law_spoilt_layers
  g_law_spoilt_layers : mg "_law_spoilt_layers" = some (.ref f_law_spoilt_layers)
  b_law_spoilt_layers : Binds K d_law_spoilt_layers ["source", "layers"] []
  f_law_first_bad : Addr
  d_law_first_bad : FuncData
  F_law_first_bad : Fun K "_law_first_bad" "_law_first_bad" s_law_first_bad f_law_first_bad d_law_first_bad
  g_law_first_bad : mg "_law_first_bad" = some (.ref f_law_first_bad)
  b_law_first_bad : Binds K d_law_first_bad ["layers"] []
  f_law_due : Addr
  d_law_due : FuncData
  F_law_due : Fun K "_law_due" "_law_due" s_law_due f_law_due d_law_due
  g_law_due : mg "_law_due" = some (.ref f_law_due)
  b_law_due : Binds K d_law_due ["door", "one", "other"] []
  f_law_two_errors : Addr
  d_law_two_errors : FuncData
  F_law_two_errors : Fun K "_law_two_errors" "_law_two_errors" s_law_two_errors f_law_two_errors d_law_two_errors
  g_law_two_errors : mg "_law_two_errors" = some (.ref f_law_two_errors)
  b_law_two_errors : Binds K d_law_two_errors ["source"] []
  f_law : Addr
  d_law : FuncData
  F_law : Fun K "law" "law" s_law f_law d_law
  g_law : mg "law" = some (.ref f_law)
  b_law : Binds K d_law ["script"] []
  m_ValueError : mg "ValueError" = none
  m_bool : mg "bool" = none
  m_enumerate : mg "enumerate" = none
  m_int : mg "int" = none
  m_isinstance : mg "isinstance" = none
  m_len : mg "len" = none
  m_list : mg "list" = none
  m_max : mg "max" = none
  m_min : mg "min" = none
  m_range : mg "range" = none
  m_repr : mg "repr" = none
  m_str : mg "str" = none
  m_tuple : mg "tuple" = none
  t_MOST_ATTEMPTS : Tok
  c_MOST_ATTEMPTS : mg "MOST_ATTEMPTS" = some (.int 10000 t_MOST_ATTEMPTS)
end Rn
namespace Rn
open PySem PySem.Spec PyProof.Rows L2
section
variable {P : Program} {w : World} {K : PySem.W.Frag} {mg : Str → Option Value} {base : Heap}
/-- where the first negative one stands -/
def negAt (ns : List Int) : V := match ns.findIdx? (fun x => decide (x < 0)) with
  | none => .non
  | some i => .int (i : Nat)
theorem negAt_none {ns : List Int} (h : ∀ x ∈ ns, 0 ≤ x) : negAt ns = .non := by
  unfold negAt
  rw [List.findIdx?_eq_none_iff.mpr fun x hx => decide_eq_false (by have := h x hx; omega)]
def sp_first_negative (K : PySem.W.Frag) : Sp := fun vs H Q _ => ∃ (a : Addr) (ns : List Int), vs = [.ref a] ∧ SqL K H a (ns.map V.int) ∧ ∀ H', Same H H' → Q (negAt ns) H'
theorem ok_first_negative (T : Txt P K mg) : FnOk P w K mg base CX0 1 T.f_first_negative T.d_first_negative ["waits"] (sp_first_negative K) := by
  refine T.F_first_negative.ok sc_first_negative (fun vs H Q E h => ?_) (fun cdv A outer s H vs Q E hr h => ?_)
  · obtain ⟨a, ns, rfl, _⟩ := h
    rfl
  obtain ⟨a, ns, rfl, hS, q⟩ := h
  refine ⟨_, (pss_cons (ps_for PassesOwn.never rfl (pi_enum (by rfl) T.m_enumerate (pa_cons (pv 0) pa_nil)) (pg_tup rfl (pgs_cons (pg_name (i := 1) sc_first_negative.nd rfl (Or.inl rfl)) (pgs_cons (pg_name (i := 2) sc_first_negative.nd rfl (Or.inl rfl)) pgs_nil)))
      (pss_one (ps_if (pt_cmpR op_lt (pv 2) pe_int (nomark _))
      (pss_one (ps_ret (pv 1)))
      pss_nil)))
      (pss_one (ps_ret pe_non))), ?_⟩
  -- the walk
  refine ⟨.ref a, rfl, a, ns.map V.int, rfl, hS, for_enum (fun i σ H' => (∃ y1 y2, σ = [some (.ref a), y1, y2]) ∧ Same H H' ∧ ∀ j : Nat, j < i → ∀ x, ns[j]? = some x → 0 ≤ x)
    ⟨⟨none, none, rfl⟩, Same.refl H, fun j hj => absurd hj (Nat.not_lt_zero j)⟩ (fun i σ H' _ h => h.2.1.seq hS) (fun i x σ H' t hx h nt => ?_) (fun σ H' h => ?_)⟩
  · obtain ⟨⟨y1, y2, rfl⟩, sm, hn⟩ := h
    obtain ⟨n, hx', rfl⟩ : ∃ n, ns[i]? = some n ∧ x = .int n := by
      rw [List.getElem?_map] at hx
      cases e : ns[i]? with
      | none => rw [e] at hx; cases hx
      | some n => rw [e] at hx; exact ⟨n, rfl, (Option.some.inj hx).symm⟩
    refine ⟨t, _, rfl, sqt upd_same, rfl, _, _, rfl, _, _, rfl, rfl, ?_⟩
    -- if wait < 0
    refine ⟨_, rfl, _, _, rfl, rfl, _, rfl, ite2 (fun e => ?_) (fun e => ?_)⟩
    · have e' : n < 0 := of_decide_eq_true e
      refine ⟨_, rfl, ?_⟩
      have hf : negAt ns = .int (i : Nat) := by
        unfold negAt
        have hi : i < ns.length := (List.getElem?_eq_some_iff.mp hx').1
        have : ns.findIdx? (fun x => decide (x < 0)) = some i := by
          rw [List.findIdx?_eq_some_iff_getElem]
          refine ⟨hi, ?_, fun j hj => ?_⟩
          · rw [(List.getElem?_eq_some_iff.mp hx').2]
            exact decide_eq_true e'
          · have hjl : j < ns.length := by omega
            have := hn j hj _ (List.getElem?_eq_getElem hjl)
            simp only [decide_eq_true_eq]
            omega
        rw [this]
      have := q (upd H' t (.tup [.int (i : Nat), .int n])) (sm.trans (same_new nt))
      rw [hf] at this
      exact this
    · refine ⟨⟨_, _, rfl⟩, sm.trans (same_new nt), fun j hj x hz => ?_⟩
      by_cases ej : j = i
      · subst ej
        rw [hx'] at hz
        cases hz
        have := of_decide_eq_false (Bool.eq_false_iff.mpr e)
        omega
      · exact hn j (by omega) x hz
  · obtain ⟨⟨y1, y2, rfl⟩, sm, hn⟩ := h
    have e : negAt ns = .non := negAt_none fun x hx => by
      obtain ⟨j, hj, e⟩ := List.getElem_of_mem hx
      exact hn j (by simpa using hj) x (by rw [← e]; exact List.getElem?_eq_getElem hj)
    have := q H' sm
    rw [e] at this
    exact this

end
end Rn
namespace Rn
open PySem PySem.Spec PyProof.Rows L2
section
variable {P : Program} {w : World} {K : PySem.W.Frag} {mg : Str → Option Value} {base : Heap}
def sp_check_waits (K : PySem.W.Frag) (C : Addr) : Sp := fun vs H Q E => ∃ (a : Addr) (ns : List Int), vs = [.ref a] ∧ SqL K H a (ns.map V.int) ∧ (negAt ns = .non → ∀ H', Same H H' → Q .non H') ∧ ∀ i : Int, negAt ns = .int i → Err C (.int i) H E
theorem negAt_or (ns : List Int) : negAt ns = .non ∨ ∃ i : Int, negAt ns = .int i := by
  unfold negAt
  split
  · exact .inl rfl
  · exact .inr ⟨_, rfl⟩
theorem ok_check_waits (T : Txt P K mg) : FnOk P w K mg base (L2N.CX P w) 2 T.f_check_waits T.d_check_waits ["waits"] (sp_check_waits K T.C_InvalidWait) := by
  have G_first_negative := ok_first_negative (P := P) (w := w) (base := base) T
  refine okN T.F_check_waits sc_check_waits (fun vs H Q E h => ?_) (fun cdv A outer s H vs Q E hr h => ?_)
  · obtain ⟨a, ns, rfl, _⟩ := h
    rfl
  obtain ⟨a, ns, rfl, hS, q, qe⟩ := h
  refine ⟨_, (pss_cons (ps_set (i := 1) sc_check_waits.nd rfl (Or.inl rfl) (pe_call G_first_negative hr (by rfl) T.g_first_negative T.F_first_negative.kp T.b_first_negative .nil pass0 (pa_cons (pv 0) pa_nil)))
      (pss_one (ps_if (pt_cmpR op_notN (pv 1) pe_non (nomark _))
      (pss_one (ps_raiseVeN rfl T.V_InvalidWait hr (L2N.takes_of rfl rfl rfl rfl) (pa_cons (pv 1) pa_nil)))
      pss_nil))), ?_⟩
  refine ⟨.ref a, rfl, a, ns, rfl, hS, fun H1 s1 => ?_⟩
  rcases negAt_or ns with e | ⟨i, e⟩
  · rw [e]
    exact ⟨_, rfl, rfl, _, rfl, iteNS rfl (q e H1 s1)⟩
  · rw [e]
    exact ⟨_, rfl, rfl, _, rfl, iteT ⟨_, rfl, _, rfl, fun d hd => qe i e _ d (s1.trans (same_new hd)) upd_same⟩⟩

end
end Rn
namespace Rn
open PySem PySem.Spec PyProof.Rows L2
section
variable {P : Program} {w : World} {K : PySem.W.Frag} {mg : Str → Option Value} {base : Heap}
def sp_is_valid_layer (K : PySem.W.Frag) : Sp := fun vs H Q _ => ∃ (v : V) (L : Lay), vs = [v] ∧ LayAt H v L ∧ ∀ H', Same H H' → Q (.bl L.ok) H'
theorem negAt_iff (ns : List Int) : decide (negAt ns = .non) = ns.all fun x => decide (0 ≤ x) := by
  by_cases h : ∀ x ∈ ns, 0 ≤ x
  · rw [negAt_none h, decide_eq_true rfl]
    symm
    rw [List.all_eq_true]
    exact fun x hx => decide_eq_true (h x hx)
  · have e : ns.all (fun x => decide (0 ≤ x)) = false := by
      rw [Bool.eq_false_iff]
      intro z
      rw [List.all_eq_true] at z
      exact h fun x hx => of_decide_eq_true (z x hx)
    rw [e]
    unfold negAt
    cases q : ns.findIdx? (fun x => decide (x < 0)) with
    | none =>
      rw [List.findIdx?_eq_none_iff] at q
      exact absurd (fun x hx => by have := of_decide_eq_false (q x hx); omega) h
    | some i => exact decide_eq_false fun z => nomatch z
theorem ok_is_valid_layer (T : Txt P K mg) : FnOk P w K mg base CX0 2 T.f_is_valid_layer T.d_is_valid_layer ["layer"] (sp_is_valid_layer K) := by
  have G_first_negative := ok_first_negative (P := P) (w := w) (base := base) T
  refine T.F_is_valid_layer.ok sc_is_valid_layer (fun vs H Q E h => ?_) (fun cdv A outer s H vs Q E hr h => ?_)
  · obtain ⟨v, L, rfl, _⟩ := h
    rfl
  obtain ⟨v, L, rfl, hL, q⟩ := h
  refine ⟨_, (pss_cons (ps_if (pt_val (pe_callB call_isi (by rfl) T.m_isinstance (by decide +kernel) (pa_cons (pv 0) (pa_cons (pe_bltn (v := .ty "tuple") (by rfl) T.m_tuple (by decide +kernel) rfl) pa_nil))))
      (pss_cons (ps_asg (pv 0) (pg_tup rfl (pgs_cons (pg_name (i := 1) sc_is_valid_layer.nd rfl (Or.inl rfl)) (pgs_cons (pg_name (i := 2) sc_is_valid_layer.nd rfl (Or.inl rfl)) pgs_nil))))
      (pss_one (ps_ret (pe_and (pe_cmpR op_ge (pv 1) pe_int (nomark _)) (pe_one (pe_cmpR op_ge (pv 2) pe_int (nomark _)))))))
      pss_nil)
      (pss_one (ps_ret (pe_cmpR op_isN (pe_call G_first_negative hr (by rfl) T.g_first_negative T.F_first_negative.kp T.b_first_negative .nil pass0 (pa_cons (pv 0) pa_nil)) pe_non (nomark _))))), ?_⟩
  cases L with
  | con wt n =>
    obtain ⟨p, rfl, hp⟩ := hL
    refine ⟨_, rfl, _, _, _, _, true, rfl, .ty "tuple", .base (.tup hp), kit_ty (by decide +kernel), true, rfl, iteT ?_⟩
    refine ⟨_, rfl, p, _, rfl, sqt hp, rfl, _, _, rfl, _, _, rfl, rfl, ?_⟩
    refine ⟨_, rfl, _, _, rfl, rfl, _, rfl, ite2 (fun e => ?_) (fun e => ?_)⟩
    · refine ⟨_, rfl, _, _, rfl, rfl, ?_⟩
      have := q H (Same.refl H)
      rw [Lay.ok_con, e, Bool.true_and] at this
      exact this
    · have := q H (Same.refl H)
      rw [Lay.ok_con, Bool.eq_false_iff.mpr e, Bool.false_and] at this
      exact this
  | pol ns =>
    obtain ⟨p, rfl, hp⟩ := hL
    refine ⟨_, rfl, _, _, _, _, false, rfl, .ty "tuple", .base (.lst hp), kit_ty (by decide +kernel), false, rfl, iteF ?_⟩
    refine ⟨_, rfl, p, ns, rfl, sql hp, fun H' sm => ⟨rfl, ?_⟩⟩
    have := q H' sm
    rw [Lay.ok_pol, ← negAt_iff] at this
    exact this

end
end Rn
namespace Rn
open PySem PySem.Spec PyProof.Rows L2
section
variable {P : Program} {w : World} {K : PySem.W.Frag} {mg : Str → Option Value} {base : Heap}
def sp_check_nesting (K : PySem.W.Frag) (C : Addr) : Sp := fun vs H Q E => ∃ (a : Addr) (Ls : List Lay), vs = [.ref a] ∧ NestAt H a Ls ∧ (badAt Ls = none → ∀ H', Same H H' → Q .non H') ∧ ∀ i : Nat, badAt Ls = some i → Err C (.int i) H E
theorem ok_check_nesting (T : Txt P K mg) : FnOk P w K mg base (L2N.CX P w) 3 T.f_check_nesting T.d_check_nesting ["nesting"] (sp_check_nesting K T.C_InvalidLayer) := by
  have G_is_valid_layer := ok_is_valid_layer (P := P) (w := w) (base := base) T
  refine okN T.F_check_nesting sc_check_nesting (fun vs H Q E h => ?_) (fun cdv A outer s H vs Q E hr h => ?_)
  · obtain ⟨a, Ls, rfl, _⟩ := h
    rfl
  obtain ⟨a, Ls, rfl, hN, q, qe⟩ := h
  refine ⟨_, (pss_one (ps_for (passes_of rfl) rfl (pi_enum (by rfl) T.m_enumerate (pa_cons (pv 0) pa_nil)) (pg_tup rfl (pgs_cons (pg_name (i := 1) sc_check_nesting.nd rfl (Or.inl rfl)) (pgs_cons (pg_name (i := 2) sc_check_nesting.nd rfl (Or.inl rfl)) pgs_nil)))
      (pss_one (ps_if (pt_not (pt_val (pe_call G_is_valid_layer hr (by rfl) T.g_is_valid_layer T.F_is_valid_layer.kp T.b_is_valid_layer .nil pass0 (pa_cons (pv 2) pa_nil))))
      (pss_one (ps_raiseVeN rfl T.V_InvalidLayer hr (L2N.takes_of rfl rfl rfl rfl) (pa_cons (pv 1) pa_nil)))
      pss_nil)))), ?_⟩
  obtain ⟨vs, hv, hl, hat⟩ := id hN
  refine ⟨.ref a, rfl, a, vs, rfl, sql hv, for_enum (fun i σ H' => (∃ y1 y2, σ = [some (.ref a), y1, y2]) ∧ Same H H' ∧ ∀ j : Nat, j < i → ∀ L, Ls[j]? = some L → L.ok = true) ⟨⟨none, none, rfl⟩, Same.refl H, fun j hj => absurd hj (Nat.not_lt_zero j)⟩ (fun i σ H' _ h => h.2.1.seq (sql hv)) (fun i x σ H' t hx h nt => ?_) (fun σ H' h => q (badAt_all fun L hL => ?_) H' h.2.1)⟩
  · obtain ⟨⟨y1, y2, rfl⟩, sm, hn⟩ := h
    have hi : i < Ls.length := by
      rw [← hl]
      exact (List.getElem?_eq_some_iff.mp hx).1
    have sm1 := sm.trans (same_new (o := .tup [.int (i : Nat), x]) nt)
    refine ⟨t, _, rfl, sqt upd_same, rfl, _, _, rfl, _, _, rfl, rfl, ?_⟩
    refine ⟨_, rfl, x, Ls[i], rfl, (hat i x _ hx (List.getElem?_eq_getElem hi)).same sm1, fun H2 s2 => ?_⟩
    cases e : Ls[i].ok with
    | true =>
      refine ⟨true, rfl, iteF ⟨⟨_, _, rfl⟩, sm1.trans s2, fun j hj L hL => ?_⟩⟩
      by_cases ej : j = i
      · subst ej
        rw [List.getElem?_eq_getElem hi] at hL
        cases hL
        exact e
      · exact hn j (by omega) L hL
    | false => exact ⟨false, rfl, iteT ⟨_, rfl, _, rfl, fun d hd => qe i (badAt_first hi e hn) _ d ((sm1.trans s2).trans (same_new hd)) upd_same⟩⟩
  · obtain ⟨j, hj, e⟩ := List.getElem_of_mem hL
    exact h.2.2 j (by rw [hl]; exact hj) L (by rw [← e]; exact List.getElem?_eq_getElem hj)
/-- .. where nothing is invalid -/
def sp_check_nesting0 (K : PySem.W.Frag) : Sp := fun vs H Q _ => ∃ (a : Addr) (Ls : List Lay), vs = [.ref a] ∧ NestAt H a Ls ∧ (∀ L ∈ Ls, L.ok = true) ∧ ∀ H', Same H H' → Q .non H'
theorem ok_check_nesting0 (T : Txt P K mg) : FnOk P w K mg base CX0 3 T.f_check_nesting T.d_check_nesting ["nesting"] (sp_check_nesting0 K) :=
  calm0N (ok_check_nesting T) fun vs H Q E h => by
    obtain ⟨a, Ls, rfl, hN, hok, q⟩ := h
    exact ⟨a, Ls, rfl, hN, fun _ => q, fun i hi => by rw [badAt_all hok] at hi; cases hi⟩

end
end Rn
namespace Rn
open PySem PySem.Spec PyProof.Rows L2
section
variable {P : Program} {w : World} {K : PySem.W.Frag} {mg : Str → Option Value} {base : Heap}
def sp_check_size (K : PySem.W.Frag) (C : Addr) : Sp := fun vs H Q E => ∃ n : Int, vs = [.int n] ∧ (n ≤ 10000 → Q .non H) ∧ (10000 < n → Err C (.int n) H E)
theorem ok_check_size (T : Txt P K mg) : FnOk P w K mg base (L2N.CX P w) 1 T.f_check_size T.d_check_size ["total"] (sp_check_size K T.C_TooManyAttempts) := by
  refine okN T.F_check_size sc_check_size (fun vs H Q E h => ?_) (fun cdv A outer s H vs Q E hr h => ?_)
  · obtain ⟨n, rfl, _⟩ := h
    rfl
  obtain ⟨n, rfl, q, qe⟩ := h
  refine ⟨_, (pss_one (ps_if (pt_cmpR op_gt (pv 0) (pe_glob (v := .int 10000) rfl T.c_MOST_ATTEMPTS ⟨_, rfl⟩) (nomark _))
      (pss_one (ps_raiseVeN rfl T.V_TooManyAttempts hr (L2N.takes_of rfl rfl rfl rfl) (pa_cons (pv 0) pa_nil)))
      pss_nil)), ?_⟩
  refine ⟨_, rfl, _, _, rfl, rfl, _, rfl, ite2 (fun e => ?_) (fun e => q (by have := of_decide_eq_false (Bool.eq_false_iff.mpr e); omega))⟩
  have big := of_decide_eq_true e
  exact ⟨_, rfl, _, rfl, fun d hd => qe (by omega) _ d (same_new hd) upd_same⟩

end
end Rn
namespace Rn
open PySem PySem.Spec PyProof.Rows L2
section
variable {P : Program} {w : World} {K : PySem.W.Frag} {mg : Str → Option Value} {base : Heap}
def sp_nested (K : PySem.W.Frag) : Sp := fun vs H Q _ => ∃ (p q : Addr) (xs ys : List V), vs = [.ref p, .ref q] ∧ H p = some (.lst xs) ∧ H q = some (.lst ys) ∧ (xs.length + 1) * (ys.length + 1) ≤ 100000 ∧
  ∀ H' r, Same H H' → H r = none → H' r = some (.lst (nestL xs ys)) → Q (.ref r) H'
theorem ok_nested (T : Txt P K mg) : FnOk P w K mg base CX0 1 T.f_nested T.d_nested ["inner", "outer"] (sp_nested K) := by
  refine T.F_nested.ok sc_nested (fun vs H Q E h => ?_) (fun cdv A outer s H vs Q E hr h => ?_)
  · obtain ⟨p, q, xs, ys, rfl, _⟩ := h
    rfl
  obtain ⟨p, q, xs, ys, rfl, hp, hq, hz, k⟩ := h
  refine ⟨_, (pss_cons (ps_set (i := 2) sc_nested.nd rfl (Or.inl rfl) (pe_callTy call_list_of (by rfl) T.m_list (by decide +kernel) (pa_cons (pv 0) pa_nil)))
      (pss_cons (ps_for PassesOwn.never rfl (pi_list (pv 1)) (pg_name (i := 3) sc_nested.nd rfl (Or.inl rfl))
      (pss_cons (ps_expr (pe_bm PySem.F.plainAttrs_list PySem.F.slot_list_append PySem.F.type_list_append mt_append (pv 2) (pa_cons (pv 3) pa_nil)))
      (pss_one (ps_expr (pe_bm PySem.F.plainAttrs_list PySem.F.slot_list_extend PySem.F.type_list_extend mt_extend (pv 2) (pa_cons (pv 0) pa_nil))))))
      (pss_one (ps_ret (pv 2))))), ?_⟩
  refine ⟨_, rfl, p, xs, rfl, .inl (sql hp), fun r hr => ?_⟩
  have np : p ≠ r := ne_of_none hp hr
  have nq : q ≠ r := ne_of_none hq hr
  refine ⟨_, rfl, q, rfl, ⟨ys, sql (by rw [upd_ne nq]; exact hq)⟩, for_list (xs := ys) (fun i σ H' => (∃ y3, σ = [some (.ref p), some (.ref q), some (.ref r), y3]) ∧ Same H H' ∧ H' r = some (.lst (nestL xs (ys.take i))))
    ⟨⟨none, rfl⟩, same_new hr, by rw [upd_same, List.take_zero, nestL_nil]⟩ (fun i σ H' _ h => h.2.1.seq (sql hq)) (fun i x σ H' hx h => ?_) (fun σ H' h => ?_)⟩
  · obtain ⟨⟨y3, rfl⟩, sm, hr'⟩ := h
    have hi : i < ys.length := (List.getElem?_eq_some_iff.mp hx).1
    have e1 := nestL_len xs (ys.take i)
    rw [List.length_take, Nat.min_eq_left (Nat.le_of_lt hi)] at e1
    have e2 : (xs.length + 1) * (i + 1) + (xs.length + 1) ≤ (xs.length + 1) * (ys.length + 1) := by
      rw [← Nat.mul_succ]
      exact Nat.mul_le_mul_left _ (by omega)
    -- waits.append(wait)
    refine ⟨_, rfl, .inl ⟨rfl, _, sql hr'⟩, _, rfl, r, _, _, rfl, rfl, hr', size_lt (by omega), ?_⟩
    -- waits.extend(inner)
    refine ⟨_, rfl, .inl ⟨rfl, _, sql upd_same⟩, _, rfl, r, p, _, xs, rfl, rfl, upd_same, by rw [upd_ne np]; exact sm _ _ hp, size_le (by rw [List.length_append]; show (nestL xs (ys.take i)).length + 1 + xs.length ≤ 100000; omega), ?_⟩
    refine ⟨⟨_, rfl⟩, same_keep (same_keep sm hr) hr, ?_⟩
    rw [upd_same, List.take_add_one, hx]
    unfold nestL
    simp [List.flatMap_append, List.append_assoc]
  · obtain ⟨⟨y3, rfl⟩, sm, hr'⟩ := h
    rw [List.take_length] at hr'
    exact ⟨_, rfl, k H' r sm hr hr'⟩

end
end Rn
namespace Rn
open PySem PySem.Spec PyProof.Rows L2
section
variable {P : Program} {w : World} {K : PySem.W.Frag} {mg : Str → Option Value} {base : Heap}
theorem negF_none {ws : List Int} (h : negAt ws = .non) : negF ws = none := by
  unfold negAt at h
  unfold negF
  split at h
  · assumption
  · cases h
theorem negF_some {ws : List Int} {i : Int} (h : negAt ws = .int i) : ∃ j : Nat, i = (j : Int) ∧ negF ws = some j := by
  unfold negAt at h
  unfold negF
  split at h
  · cases h
  · rename_i j e
    injection h with h
    exact ⟨j, h.symm, e⟩
def sp_nest (K : PySem.W.Frag) (C D : Addr) : Sp := fun vs H Q E => ∃ (p q : Addr) (ns ms : List Int), vs = [.ref p, .ref q] ∧ H p = some (.lst (ns.map V.int)) ∧ H q = some (.lst (ms.map V.int)) ∧ ns.length ≤ 20000 ∧ ms.length ≤ 20000 ∧
  (nestErr ns ms = .none → ∀ H' r, Same H H' → Q (.ref r) H') ∧ (∀ i : Int, nestErr ns ms = errD "InvalidWait" i → Err C (.int i) H E) ∧ (∀ i : Int, nestErr ns ms = errD "TooManyAttempts" i → Err D (.int i) H E)
theorem ok_nest (T : Txt P K mg) : FnOk P w K mg base (L2N.CX P w) 3 T.f_nest T.d_nest ["inner", "outer"] (sp_nest K T.C_InvalidWait T.C_TooManyAttempts) := by
  have G_check_waits := ok_check_waits (P := P) (w := w) (base := base) T
  have G_check_size := (ok_check_size (P := P) (w := w) (base := base) T).mono (by decide : 1 ≤ 2)
  have G_nested := (ok_nested (P := P) (w := w) (base := base) T).mono (by decide : 1 ≤ 2)
  refine okN T.F_nest sc_nest (fun vs H Q E h => ?_) (fun cdv A outer s H vs Q E hr h => ?_)
  · obtain ⟨p, q, ns, ms, rfl, _⟩ := h
    rfl
  obtain ⟨p, q, ns, ms, rfl, hp, hq, z1, z2, k, eW, eT⟩ := h
  refine ⟨_, (pss_cons (ps_expr (pe_callS G_check_waits hr (by rfl) T.g_check_waits T.F_check_waits.kp T.b_check_waits (fun σ => L2N.passAt (L2N.takes_of rfl rfl rfl rfl) σ) (pa_cons (pv 0) pa_nil)))
      (pss_cons (ps_expr (pe_callS G_check_waits hr (by rfl) T.g_check_waits T.F_check_waits.kp T.b_check_waits (fun σ => L2N.passAt (L2N.takes_of rfl rfl rfl rfl) σ) (pa_cons (pv 1) pa_nil)))
      (pss_cons (ps_expr (pe_callS G_check_size hr (by rfl) T.g_check_size T.F_check_size.kp T.b_check_size (fun σ => L2N.passAt (L2N.takes_of rfl rfl rfl rfl) σ) (pa_cons (pe_op op_mul (pe_op op_add (pe_callB call_len_seq (by rfl) T.m_len PySem.boot_len (pa_cons (pv 0) pa_nil)) pe_int) (pe_op op_add (pe_callB call_len_seq (by rfl) T.m_len PySem.boot_len (pa_cons (pv 1) pa_nil)) pe_int)) pa_nil)))
      (pss_one (ps_ret (pe_call G_nested hr (by rfl) T.g_nested T.F_nested.kp T.b_nested .nil pass0 (pa_cons (pv 0) (pa_cons (pv 1) pa_nil)))))))), ?_⟩
  refine ⟨_, rfl, p, ns, rfl, sql hp, fun a0 H1 s1 => ?_, fun i e => eW i (by obtain ⟨j, rfl, e2⟩ := negF_some e; unfold nestErr; rw [e2])⟩
  refine ⟨_, rfl, q, ms, rfl, sql (s1 _ _ hq), fun b0 H2 s2 => ?_, fun i e => (eW i (by obtain ⟨j, rfl, e2⟩ := negF_some e; unfold nestErr; rw [negF_none a0, e2])).step s1⟩
  have s12 := s1.trans s2
  have a1 : ((ns.map V.int).length : Int) = ns.length := by rw [List.length_map]
  have a2 : ((ms.map V.int).length : Int) = ms.length := by rw [List.length_map]
  refine ⟨_, rfl, p, _, rfl, .inl (sql (s12 _ _ hp)), _, _, rfl, rfl, _, rfl, q, _, rfl, .inl (sql (s12 _ _ hq)), _, _, rfl, rfl, _, _, rfl, rfl, .inl ⟨by rw [a1]; omega, by rw [a1]; omega⟩, ?_⟩
  refine ⟨_, rfl, fun small => ?_, fun big => (eT _ ?_).step s12⟩
  · rw [a1, a2] at small
    have e0 : nestErr ns ms = .none := by
      unfold nestErr sizeErr
      rw [negF_none a0, negF_none b0]
      exact if_neg (by omega)
    have hz : (ns.length + 1) * (ms.length + 1) ≤ 10000 := by exact_mod_cast small
    refine ⟨_, rfl, _, rfl, p, q, _, _, rfl, s12 _ _ hp, s12 _ _ hq, by rw [List.length_map, List.length_map]; omega, fun H3 r s3 hr h3 => k e0 H3 r (s12.trans s3)⟩
  · rw [a1, a2] at big ⊢
    unfold nestErr sizeErr
    rw [negF_none a0, negF_none b0]
    exact if_pos big

end
end Rn
namespace Rn
open PySem PySem.Spec PyProof.Rows L2
section
variable {P : Program} {w : World} {K : PySem.W.Frag} {mg : Str → Option Value} {base : Heap}
def sp_layer_attempts (K : PySem.W.Frag) : Sp := fun vs H Q _ => ∃ (v : V) (L : Lay), vs = [v] ∧ LayAt H v L ∧ Q (.int L.cnt) H
theorem ok_layer_attempts (T : Txt P K mg) : FnOk P w K mg base CX0 1 T.f_layer_attempts T.d_layer_attempts ["layer"] (sp_layer_attempts K) := by
  refine T.F_layer_attempts.ok sc_layer_attempts (fun vs H Q E h => ?_) (fun cdv A outer s H vs Q E hr h => ?_)
  · obtain ⟨v, L, rfl, _⟩ := h
    rfl
  obtain ⟨v, L, rfl, hL, q⟩ := h
  refine ⟨_, (pss_cons (ps_if (pt_val (pe_callB call_isi (by rfl) T.m_isinstance (by decide +kernel) (pa_cons (pv 0) (pa_cons (pe_bltn (v := .ty "tuple") (by rfl) T.m_tuple (by decide +kernel) rfl) pa_nil))))
      (pss_one (ps_ret (pe_ix ix_tup (pv 0) pe_int (fun _ _ => rfl))))
      pss_nil)
      (pss_one (ps_ret (pe_op op_add (pe_callB call_len_seq (by rfl) T.m_len PySem.boot_len (pa_cons (pv 0) pa_nil)) pe_int)))), ?_⟩
  cases L with
  | con wt n =>
    obtain ⟨p, rfl, hp⟩ := hL
    exact ⟨_, rfl, _, _, _, _, true, rfl, .ty "tuple", .base (.tup hp), kit_ty (by decide +kernel), true, rfl, iteT ⟨_, rfl, p, _, 1, _, rfl, rfl, sqt hp, rfl, q⟩⟩
  | pol ns =>
    obtain ⟨p, rfl, hp⟩ := hL
    refine ⟨_, rfl, _, _, _, _, false, rfl, .ty "tuple", .base (.lst hp), kit_ty (by decide +kernel), false, rfl, iteF ⟨_, rfl, p, _, rfl, .inl (sql hp), _, _, rfl, rfl, ?_⟩⟩
    rw [List.length_map]
    exact q

end
end Rn
namespace Rn
open PySem PySem.Spec PyProof.Rows L2
section
variable {P : Program} {w : World} {K : PySem.W.Frag} {mg : Str → Option Value} {base : Heap}
def sp_layer_waits (K : PySem.W.Frag) : Sp := fun vs H Q _ => ∃ (v : V) (L : Lay), vs = [v] ∧ LayAt H v L ∧ 1 ≤ L.cnt ∧ L.cnt ≤ 20000 ∧
  ∀ H' r, Same H H' → H r = none → H' r = some (.lst (L.waits.map V.int)) → Q (.ref r) H'
theorem ok_layer_waits (T : Txt P K mg) : FnOk P w K mg base CX0 1 T.f_layer_waits T.d_layer_waits ["layer"] (sp_layer_waits K) := by
  refine T.F_layer_waits.ok sc_layer_waits (fun vs H Q E h => ?_) (fun cdv A outer s H vs Q E hr h => ?_)
  · obtain ⟨v, L, rfl, _⟩ := h
    rfl
  obtain ⟨v, L, rfl, hL, h1, h2, q⟩ := h
  refine ⟨_, (pss_cons (ps_if (pt_val (pe_callB call_isi (by rfl) T.m_isinstance (by decide +kernel) (pa_cons (pv 0) (pa_cons (pe_bltn (v := .ty "tuple") (by rfl) T.m_tuple (by decide +kernel) rfl) pa_nil))))
      (pss_cons (ps_asg (pv 0) (pg_tup rfl (pgs_cons (pg_name (i := 1) sc_layer_waits.nd rfl (Or.inl rfl)) (pgs_cons (pg_name (i := 2) sc_layer_waits.nd rfl (Or.inl rfl)) pgs_nil))))
      (pss_one (ps_ret (pe_op op_rep (pe_lst (pa_cons (pv 1) pa_nil)) (pe_op op_sub (pv 2) pe_int)))))
      pss_nil)
      (pss_one (ps_ret (pe_callTy call_list_of (by rfl) T.m_list (by decide +kernel) (pa_cons (pv 0) pa_nil))))), ?_⟩
  cases L with
  | con wt n =>
    have h1' : 1 ≤ n := h1
    have h2' : n ≤ 20000 := h2
    obtain ⟨p, rfl, hp⟩ := hL
    refine ⟨_, rfl, _, _, _, _, true, rfl, .ty "tuple", .base (.tup hp), kit_ty (by decide +kernel), true, rfl, iteT ?_⟩
    refine ⟨_, rfl, p, _, rfl, sqt hp, rfl, _, _, rfl, _, _, rfl, rfl, ?_⟩
    refine ⟨_, rfl, size_le (by show 1 ≤ 100000; decide), fun o ho => ?_⟩
    refine ⟨_, rfl, _, _, rfl, rfl, o, n - 1, _, rfl, rfl, upd_same, by omega, by omega, size_le (by simp; omega), fun r hr => ?_⟩
    refine q _ r (same_keep (same_new ho) ?_) ?_ ?_
    · exact (same_new ho).free hr
    · exact (same_new ho).free hr
    · rw [upd_same]
      show _ = some (HO.lst ((List.replicate (n - 1).toNat wt).map V.int))
      rw [List.map_replicate]
      congr 2
      generalize (n - 1).toNat = m
      induction m with
      | zero => rfl
      | succ m ih => rw [List.replicate_succ, List.flatten_cons, ih, List.replicate_succ]; rfl
  | pol ns =>
    obtain ⟨p, rfl, hp⟩ := hL
    refine ⟨_, rfl, _, _, _, _, false, rfl, .ty "tuple", .base (.lst hp), kit_ty (by decide +kernel), false, rfl, iteF ⟨_, rfl, p, _, rfl, .inl (sql hp), fun r hr => ?_⟩⟩
    exact q _ r (same_new hr) hr upd_same

end
end Rn
namespace Rn
open PySem PySem.Spec PyProof.Rows L2
section
variable {P : Program} {w : World} {K : PySem.W.Frag} {mg : Str → Option Value} {base : Heap}
def sp_attempts (K : PySem.W.Frag) (C : Addr) : Sp := fun vs H Q E => ∃ (a : Addr) (Ls : List Lay), vs = [.ref a] ∧ NestAt H a Ls ∧ (badAt Ls = none → ∀ L ∈ Ls, L.cnt < 2 ^ 100) ∧ Ls.length ≤ 5000 ∧ (badAt Ls = none → ∀ H', Same H H' → Q (.int (attOf Ls)) H') ∧ ∀ i : Nat, badAt Ls = some i → Err C (.int i) H E
theorem ok_attempts (T : Txt P K mg) : FnOk P w K mg base (L2N.CX P w) 4 T.f_attempts T.d_attempts ["nesting"] (sp_attempts K T.C_InvalidLayer) := by
  have G_check_nesting := ok_check_nesting (P := P) (w := w) (base := base) T
  have G_layer_attempts := (ok_layer_attempts (P := P) (w := w) (base := base) T).mono (by decide : 1 ≤ 3)
  refine okN T.F_attempts sc_attempts (fun vs H Q E h => ?_) (fun cdv A outer s H vs Q E hr h => ?_)
  · obtain ⟨a, Ls, rfl, _⟩ := h
    rfl
  obtain ⟨a, Ls, rfl, hN, hc0, hz, q0, qe⟩ := h
  refine ⟨_, (pss_cons (ps_expr (pe_callS G_check_nesting hr (by rfl) T.g_check_nesting T.F_check_nesting.kp T.b_check_nesting (fun σ => L2N.passAt (L2N.takes_of rfl rfl rfl rfl) σ) (pa_cons (pv 0) pa_nil)))
      (pss_cons (ps_set (i := 1) sc_attempts.nd rfl (Or.inl rfl) pe_int)
      (pss_cons (ps_for (passes_of rfl) rfl (pi_list (pv 0)) (pg_name (i := 2) sc_attempts.nd rfl (Or.inl rfl))
      (pss_one (ps_set (i := 1) sc_attempts.nd rfl (Or.inl rfl) (pe_op op_mulW (pv 1) (pe_call G_layer_attempts hr (by rfl) T.g_layer_attempts T.F_layer_attempts.kp T.b_layer_attempts .nil pass0 (pa_cons (pv 2) pa_nil))))))
      (pss_one (ps_ret (pv 1)))))), ?_⟩
  refine ⟨_, rfl, a, Ls, rfl, hN, fun b0 H1 s1 => ?_, qe⟩
  have hok : ∀ L ∈ Ls, L.ok = true ∧ L.cnt < 2 ^ 100 := fun L hL => ⟨badAt_none b0 L hL, hc0 b0 L hL⟩
  have q := q0 b0
  obtain ⟨vs, hv, hl, hat⟩ := id (hN.same s1)
  refine ⟨_, rfl, a, rfl, ⟨vs, sql hv⟩, for_list (xs := vs) (fun i σ H' => (∃ y2, σ = [some (.ref a), some (.int (attOf (Ls.take i))), y2]) ∧ H' = H1) ⟨⟨none, rfl⟩, rfl⟩ (fun i σ H' _ h => by rw [h.2]; exact sql hv) (fun i x σ H' hx h => ?_) (fun σ H' h => ?_)⟩
  · obtain ⟨⟨y2, rfl⟩, rfl⟩ := h
    have hi : i < Ls.length := by
      rw [← hl]
      exact (List.getElem?_eq_some_iff.mp hx).1
    have hi' := List.getElem?_eq_getElem hi
    obtain ⟨i1, i2⟩ := attOf_lt i (Ls.take i) (by rw [List.length_take]; omega) fun L hL => hok L (List.mem_of_mem_take hL)
    obtain ⟨h1, h2⟩ := hok _ (List.getElem_mem hi)
    have h3 := LayAt.con_pos h1
    refine ⟨_, rfl, _, rfl, x, Ls[i], rfl, hat i x _ hx hi', _, _, rfl, rfl, wide_mul (b := 100) i2 (by omega) (by omega) (by decide) (by omega), ⟨some x, ?_⟩, rfl⟩
    rw [List.take_add_one, hi', Option.toList_some, attOf_snoc]
    rfl
  · obtain ⟨⟨y2, rfl⟩, rfl⟩ := h
    refine ⟨_, rfl, ?_⟩
    rw [hl, List.take_length]
    exact q _ s1

end
end Rn
namespace Rn
open PySem PySem.Spec PyProof.Rows L2
section
variable {P : Program} {w : World} {K : PySem.W.Frag} {mg : Str → Option Value} {base : Heap}
def sp_flatten (K : PySem.W.Frag) (C D : Addr) : Sp := fun vs H Q E => ∃ (a : Addr) (Ls : List Lay), vs = [.ref a] ∧ NestAt H a Ls ∧ Ls.length ≤ 5000 ∧ (badAt Ls = none → ∀ L ∈ Ls, L.cnt < 2 ^ 100) ∧
  (badAt Ls = none → attOf Ls ≤ 10000 → ∀ H' r, Same H H' → H r = none → H' r = some (.lst ((flatL Ls).map V.int)) → Q (.ref r) H') ∧ (∀ i : Nat, badAt Ls = some i → Err C (.int i) H E) ∧ (badAt Ls = none → 10000 < attOf Ls → Err D (.int (attOf Ls)) H E)
theorem ok_flatten (T : Txt P K mg) : FnOk P w K mg base (L2N.CX P w) 5 T.f_flatten T.d_flatten ["nesting"] (sp_flatten K T.C_InvalidLayer T.C_TooManyAttempts) := by
  have G_attempts := ok_attempts (P := P) (w := w) (base := base) T
  have G_check_size := (ok_check_size (P := P) (w := w) (base := base) T).mono (by decide : 1 ≤ 4)
  have G_layer_attempts := (ok_layer_attempts (P := P) (w := w) (base := base) T).mono (by decide : 1 ≤ 4)
  have G_layer_waits := (ok_layer_waits (P := P) (w := w) (base := base) T).mono (by decide : 1 ≤ 4)
  have G_nested := (ok_nested (P := P) (w := w) (base := base) T).mono (by decide : 1 ≤ 4)
  refine okN T.F_flatten sc_flatten (fun vs H Q E h => ?_) (fun cdv A outer s H vs Q E hr h => ?_)
  · obtain ⟨a, Ls, rfl, _⟩ := h
    rfl
  obtain ⟨a, Ls, rfl, hN, hz, hc, q0, eL, eT⟩ := h
  refine ⟨_, (pss_cons (ps_expr (pe_callS G_check_size hr (by rfl) T.g_check_size T.F_check_size.kp T.b_check_size (fun σ => L2N.passAt (L2N.takes_of rfl rfl rfl rfl) σ) (pa_cons (pe_callS G_attempts hr (by rfl) T.g_attempts T.F_attempts.kp T.b_attempts (fun σ => L2N.passAt (L2N.takes_of rfl rfl rfl rfl) σ) (pa_cons (pv 0) pa_nil)) pa_nil)))
      (pss_cons (ps_set (i := 1) sc_flatten.nd rfl (Or.inl rfl) (pe_lst pa_nil))
      (pss_cons (ps_for (passes_of rfl) rfl (pi_list (pv 0)) (pg_name (i := 2) sc_flatten.nd rfl (Or.inl rfl))
      (pss_one (ps_if (pt_cmpR op_gt (pe_call G_layer_attempts hr (by rfl) T.g_layer_attempts T.F_layer_attempts.kp T.b_layer_attempts .nil pass0 (pa_cons (pv 2) pa_nil)) pe_int (nomark _))
      (pss_one (ps_set (i := 1) sc_flatten.nd rfl (Or.inl rfl) (pe_call G_nested hr (by rfl) T.g_nested T.F_nested.kp T.b_nested .nil pass0 (pa_cons (pv 1) (pa_cons (pe_call G_layer_waits hr (by rfl) T.g_layer_waits T.F_layer_waits.kp T.b_layer_waits .nil pass0 (pa_cons (pv 2) pa_nil)) pa_nil)))))
      pss_nil)))
      (pss_one (ps_ret (pv 1)))))), ?_⟩
  refine ⟨_, rfl, a, Ls, rfl, hN, hc, hz, fun b0 H1 s1 => ⟨_, rfl, fun hsz => ?_, fun big => (eT b0 big).step s1⟩, eL⟩
  have hok := badAt_none b0
  have q := q0 b0 hsz
  refine ⟨Nat.zero_le _, fun r hr => ?_⟩
  have s2 : Same H (upd H1 r (.lst [])) := s1.trans (same_new hr)
  have hr0 : H r = none := s1.free hr
  obtain ⟨vs, hv, hl, hat⟩ := id hN
  have na : a ≠ r := ne_of_none hv hr0
  refine ⟨_, rfl, a, rfl, ⟨vs, sql (s2 _ _ hv)⟩, for_list (xs := vs) (fun i σ H' => ∃ p y2, σ = [some (.ref a), some (.ref p), y2] ∧ Same H H' ∧ H p = none ∧ H' p = some (.lst ((flatL (Ls.take i)).map V.int)))
    ⟨r, none, rfl, s2, hr0, upd_same⟩ (fun i σ H' _ h => by obtain ⟨p, y2, _, sm, _⟩ := h; exact sql (sm _ _ hv)) (fun i x σ H' hx h => ?_) (fun σ H' h => ?_)⟩
  · obtain ⟨p, y2, rfl, sm, hp, hp'⟩ := h
    have hi : i < Ls.length := by
      rw [← hl]
      exact (List.getElem?_eq_some_iff.mp hx).1
    have hi' := List.getElem?_eq_getElem hi
    have hx' := (hat i x _ hx hi').same sm
    have hmem := List.getElem_mem hi
    have hc := cnt_le hok hmem
    have h1 := LayAt.con_pos (hok _ hmem)
    have et : Ls.take (i + 1) = Ls.take i ++ [Ls[i]] := by
      rw [List.take_add_one, hi']
      rfl
    have hf : flatL (Ls.take (i + 1)) = if Ls[i].cnt > 1 then nestL (flatL (Ls.take i)) Ls[i].waits else flatL (Ls.take i) := by
      rw [et, flatL_snoc]
    have hlen : ((flatL (Ls.take (i + 1))).length : Int) + 1 ≤ 10000 := by
      rw [flatL_len _ _ rfl fun L hL => hok L (List.mem_of_mem_take hL)]
      have := (attOf_part (Ls.take (i + 1)) (Ls.drop (i + 1)) (fun L hL => hok L (List.mem_of_mem_drop hL)) fun L hL => hok L (List.mem_of_mem_take hL)).2
      rw [List.take_append_drop] at this
      omega
    refine ⟨_, rfl, x, Ls[i], rfl, hx', _, _, rfl, rfl, _, rfl, ite2 (fun e => ?_) (fun e => ?_)⟩
    · have e' := of_decide_eq_true e
      rw [if_pos (show Ls[i].cnt > 1 from e')] at hf
      have hnl := nestL_len (flatL (Ls.take i)) Ls[i].waits
      rw [← hf] at hnl
      refine ⟨_, rfl, _, rfl, x, Ls[i], rfl, hx', h1, by omega, fun H2 u s2 hu hu2 => ?_⟩
      refine ⟨p, u, _, _, rfl, s2 _ _ hp', hu2, by rw [List.length_map, List.length_map]; omega, fun H3 t s3 ht ht3 => ?_⟩
      exact ⟨t, _, rfl, (sm.trans s2).trans s3, (sm.trans s2).free ht, by rw [ht3, hf, nestL_map]⟩
    · have e' := of_decide_eq_false (Bool.eq_false_iff.mpr e)
      rw [if_neg (show ¬ Ls[i].cnt > 1 from e')] at hf
      exact ⟨p, _, rfl, sm, hp, by rw [hf]; exact hp'⟩
  · obtain ⟨p, y2, rfl, sm, hp, hp'⟩ := h
    rw [hl, List.take_length] at hp'
    exact ⟨_, rfl, q H' p sm hp hp'⟩
/-- .. where nothing is raised -/
def sp_flatten0 (K : PySem.W.Frag) : Sp := fun vs H Q _ => ∃ (a : Addr) (Ls : List Lay), vs = [.ref a] ∧ NestAt H a Ls ∧ (∀ L ∈ Ls, L.ok = true) ∧ Ls.length ≤ 5000 ∧ attOf Ls ≤ 10000 ∧
  ∀ H' r, Same H H' → H r = none → H' r = some (.lst ((flatL Ls).map V.int)) → Q (.ref r) H'
theorem ok_flatten0 (T : Txt P K mg) : FnOk P w K mg base CX0 5 T.f_flatten T.d_flatten ["nesting"] (sp_flatten0 K) :=
  calm0N (ok_flatten T) fun vs H Q E h => by
    obtain ⟨a, Ls, rfl, hN, hok, hz, hs, q⟩ := h
    exact ⟨a, Ls, rfl, hN, hz, fun _ L hL => by have := cnt_le hok hL; omega, fun _ _ => q, fun i hi => (by rw [badAt_all hok] at hi; cases hi), fun _ big => by omega⟩

end
end Rn
namespace Rn
open PySem PySem.Spec PyProof.Rows L2
section
variable {P : Program} {w : World} {K : PySem.W.Frag} {mg : Str → Option Value} {base : Heap}
def sp_law_source (K : PySem.W.Frag) : Sp := fun vs H Q _ => ∃ (a : Addr) (ns : List Int), vs = [.ref a] ∧ SqL K H a (ns.map V.int) ∧ ns.length ≤ 63 ∧
  ∀ H' p d, Same H H' → H p = none → H d = none → Src H' p d 0 → Q (.ref p) H'
theorem ok_law_source (T : Txt P K mg) : FnOk P w K mg base CX0 1 T.f_law_source T.d_law_source ["script"] (sp_law_source K) := by
  refine T.F_law_source.ok sc_law_source (fun vs H Q E h => ?_) (fun cdv A outer s H vs Q E hr h => ?_)
  · obtain ⟨a, ns, rfl, _⟩ := h
    rfl
  obtain ⟨a, ns, rfl, hS, hl, q⟩ := h
  refine ⟨_, (pss_cons (ps_set (i := 1) sc_law_source.nd rfl (Or.inl rfl) pe_int)
      (pss_cons (ps_set (i := 2) sc_law_source.nd rfl (Or.inl rfl) (pe_lst pa_nil))
      (pss_cons (ps_for PassesOwn.never rfl (pi_list (pv 0)) (pg_name (i := 3) sc_law_source.nd rfl (Or.inl rfl))
      (pss_cons (ps_set (i := 1) sc_law_source.nd rfl (Or.inl rfl) (pe_op op_mod (pe_op op_add (pe_op op_mul (pv 1) pe_int) (pv 3)) (pe_op op_sub (pe_op op_pow pe_int pe_int) pe_int)))
      (pss_cons (ps_set (i := 4) sc_law_source.nd rfl (Or.inl rfl) (pe_callB (call_max2 rfl) (by rfl) T.m_max (by decide +kernel) (pa_cons (pv 3) (pa_cons (pe_op op_sub pe_int (pv 3)) pa_nil))))
      (pss_one (ps_if (pt_cmpR op_ge (pv 4) (pe_op op_pow pe_int pe_int) (nomark _))
      (pss_one (ps_expr (pe_bm PySem.F.plainAttrs_list PySem.F.slot_list_append PySem.F.type_list_append mt_append (pv 2) (pa_cons (pe_op op_sub (pv 4) (pe_op op_pow pe_int pe_int)) pa_nil))))
      pss_nil)))))
      (pss_one (ps_ret (pe_lst (pa_cons (pv 2) (pa_cons pe_int (pa_cons (pv 1) (pa_cons pe_int pa_nil)))))))))), ?_⟩
  refine ⟨Nat.zero_le _, fun d hd => ?_⟩
  refine ⟨_, rfl, a, rfl, ⟨_, (same_new hd).seq hS⟩, for_list (xs := ns.map V.int) (fun i σ H' => ∃ mix y3 y4 ds, σ = [some (.ref a), some (.int mix), some (.ref d), y3, y4] ∧ 0 ≤ mix ∧ mix < 2305843009213693951 ∧ Same H H' ∧ H' d = some (.lst ((ds : List Int).map V.int)) ∧ ds.length ≤ i)
    ⟨271828182845904, none, none, [], rfl, by decide, by decide, same_new hd, upd_same, Nat.le_refl _⟩ (fun i σ H' _ h => by obtain ⟨_, _, _, _, _, _, _, sm, _⟩ := h; exact sm.seq hS) (fun i x σ H' hx h => ?_) (fun σ H' h => ?_)⟩
  · obtain ⟨mix, y3, y4, ds, rfl, m0, m1, sm, hds, hdl⟩ := h
    have hi : i < 63 := by
      have := (List.getElem?_eq_some_iff.mp hx).1
      rw [List.length_map] at this
      omega
    obtain ⟨n, rfl⟩ : ∃ n, x = .int n := by
      rw [List.getElem?_map] at hx
      cases e : ns[i]? with
      | none => rw [e] at hx; cases hx
      | some n => rw [e] at hx; exact ⟨n, (Option.some.inj hx).symm⟩
    have pm : (0 : Int) < 2 ^ (61 : Int).toNat - 1 := by decide
    have pe : (2 : Int) ^ (61 : Int).toNat - 1 = 2305843009213693951 := by decide
    -- mix = ..
    refine ⟨_, rfl, _, _, rfl, rfl, .inl ⟨by omega, by omega⟩, _, rfl, _, _, rfl, rfl, _, _, rfl, rfl, ⟨by decide, by decide, by decide⟩, _, _, rfl, rfl, _, _, rfl, rfl, pm, ?_⟩
    -- size = max(cell, 0 - cell)
    refine ⟨_, rfl, _, rfl, _, _, rfl, rfl, _, _, rfl, ?_⟩
    have b1 := Int.emod_nonneg (mix * 1000033 + n) (show (2 : Int) ^ (61 : Int).toNat - 1 ≠ 0 by decide)
    have b2 := Int.emod_lt_of_pos (mix * 1000033 + n) pm
    rw [pe] at b2
    -- if size >= 10 ** 18
    refine ⟨_, rfl, _, _, rfl, rfl, ⟨by decide, by decide, by decide⟩, _, _, rfl, rfl, _, rfl, ite2 (fun e => ?_) (fun e => ?_)⟩
    · refine ⟨_, rfl, .inl ⟨rfl, _, sql hds⟩, _, rfl, _, _, rfl, rfl, ⟨by decide, by decide, by decide⟩, _, _, rfl, rfl, d, _, _, rfl, rfl, hds, size_lt (by rw [List.length_map]; omega), ?_⟩
      refine ⟨_, _, _, ds ++ [_], rfl, b1, b2, same_keep sm hd, by rw [upd_same, List.map_append]; rfl, by rw [List.length_append]; exact Nat.succ_le_succ hdl⟩
    · exact ⟨_, _, _, ds, rfl, b1, b2, sm, hds, Nat.le_succ_of_le hdl⟩
  · obtain ⟨mix, y3, y4, ds, rfl, m0, m1, sm, hds, hdl⟩ := h
    refine ⟨_, rfl, _, rfl, size_le (by show 4 ≤ 100000; decide), fun p hp => ?_⟩
    refine q _ p d (sm.trans (same_new hp)) (sm.free hp) hd ⟨0, mix, 0, ds, upd_same, ?_, m0, m1, by decide, by decide⟩
    rw [upd_ne (ne_of_none hds hp)]
    exact hds

end
end Rn
namespace Rn
open PySem PySem.Spec PyProof.Rows L2
section
variable {P : Program} {w : World} {K : PySem.W.Frag} {mg : Str → Option Value} {base : Heap}
def sp_law_draw (K : PySem.W.Frag) : Sp := fun vs H Q _ => ∃ (a d : Addr) (n many : Int), vs = [.ref a, .int many] ∧ Src H a d n ∧ n ≤ 1000000000000000 ∧ 0 < many ∧ many < 2 ^ 100 ∧
  ∀ H' r, Adv a d 1 H H' → 0 ≤ r → r < many → Q (.int r) H'
theorem ok_law_draw (T : Txt P K mg) : FnOk P w K mg base CX0 1 T.f_law_draw T.d_law_draw ["source", "many"] (sp_law_draw K) := by
  refine T.F_law_draw.ok sc_law_draw (fun vs H Q E h => ?_) (fun cdv A outer s H vs Q E hr h => ?_)
  · obtain ⟨a, d, n, many, rfl, _⟩ := h
    rfl
  obtain ⟨a, d, n, many, rfl, hS, hn, hm0, hm1, q⟩ := h
  refine ⟨_, (pss_cons (ps_while PassesOwn.never (PW.pt (pw_and (pt_cmpR op_lt (pe_ix ix_list (pv 0) pe_int (fun _ _ => rfl)) pe_int (nomark _)) (pw_and1 (pt_cmpR (op_neD hr.units) (pe_ix ix_list (pv 0) pe_int (fun _ _ => rfl)) (pe_lst pa_nil) (nomark _)))))
      (pss_one (ps_asg (pe_bm PySem.F.plainAttrs_list PySem.F.slot_list_pop PySem.F.type_list_pop mt_popAt (pe_ix ix_list (pv 0) pe_int (fun _ _ => rfl)) (pa_cons pe_int pa_nil)) (pg_sub (pv 0) pe_int set_list))))
      (pss_cons (ps_if (pt_cmpR op_ge (pe_ix ix_list (pv 0) pe_int (fun _ _ => rfl)) pe_int (nomark _))
      (pss_cons (ps_set (i := 2) sc_law_draw.nd rfl (Or.inl rfl) (pe_op op_mod (pe_ix ix_list (pv 0) pe_int (fun _ _ => rfl)) (pv 1)))
      (pss_cons (ps_asg (pe_op op_fdivW (pe_ix ix_list (pv 0) pe_int (fun _ _ => rfl)) (pv 1)) (pg_sub (pv 0) pe_int set_list))
      (pss_one (ps_ret (pv 2)))))
      pss_nil)
      (pss_cons (ps_asg (pe_op op_add (pe_ix ix_list (pv 0) pe_int (fun _ _ => rfl)) pe_int) (pg_sub (pv 0) pe_int set_list))
      (pss_cons (ps_set (i := 3) sc_law_draw.nd rfl (Or.inl rfl) (pe_op op_mul (pe_op op_add (pe_ix ix_list (pv 0) pe_int (fun _ _ => rfl)) pe_int) (pe_op op_pow (pe_op op_add (pe_ix ix_list (pv 0) pe_int (fun _ _ => rfl)) pe_int) pe_int)))
      (pss_cons (ps_set (i := 3) sc_law_draw.nd rfl (Or.inl rfl) (pe_op op_mod (pe_op op_add (pv 3) (pe_op op_mul pe_int (pe_ix ix_list (pv 0) pe_int (fun _ _ => rfl)))) (pe_op op_sub (pe_op op_pow pe_int pe_int) pe_int)))
      (pss_one (ps_ret (pe_op op_mod (pe_op op_fdivW (pe_op op_mod (pe_op op_pow (pv 3) pe_int) (pe_op op_add (pe_op op_pow pe_int pe_int) pe_int)) pe_int) (pv 1))))))))), ?_⟩
  have had := hS.ne
  obtain ⟨cur, mix, cnt, ds, ha, hd, m0, m1, c0, c1⟩ := hS
  have hda := had.symm
  -- the digits' loop
  refine ⟨fun m σ H' => ∃ cu es, σ = [some (.ref a), some (.int many), none, none] ∧ H' a = some (.lst [.ref d, .int cu, .int mix, .int cnt]) ∧ H' d = some (.lst ((es : List Int).map V.int)) ∧ es.length = m ∧ Same (hid a d H) (hid a d H'),
    ⟨ds.length, cur, ds, rfl, ha, hd, rfl, Same.refl _⟩, fun m σ H1 hW => ?_⟩
  obtain ⟨cu, es, rfl, ha1, hd1, hl1, sm1⟩ := hW
  have hp3 : (0 : Int) < 2 ^ (61 : Int).toNat - 1 := by decide
  have hp3e : (2 : Int) ^ (61 : Int).toNat - 1 = 2305843009213693951 := by decide
  have hp4 : (0 : Int) < 10 ^ (18 : Int).toNat + 9 := by decide
  -- source[1] < 2
  refine ⟨_, rfl, a, _, 1, _, rfl, rfl, sql ha1, rfl, _, _, rfl, rfl, _, rfl, ite2 (fun e => ?_) (fun e => ?_)⟩
  · -- source[0] != []
    refine ⟨_, rfl, a, _, 0, _, rfl, rfl, sql ha1, rfl, Nat.zero_le _, fun o ho => ?_⟩
    have no : o ≠ a ∧ o ≠ d := ⟨(ne_of_none ha1 ho).symm, (ne_of_none hd1 ho).symm⟩
    have ha2 : (upd H1 o (.lst [])) a = some (.lst [.ref d, .int cu, .int mix, .int cnt]) := by rw [upd_ne no.1.symm]; exact ha1
    have hd2 : (upd H1 o (.lst [])) d = some (.lst (es.map V.int)) := by rw [upd_ne no.2.symm]; exact hd1
    have sm2 : Same (hid a d H) (hid a d (upd H1 o (.lst []))) := sm1.trans (hid_same (same_new ho))
    refine ⟨dInts es, dInts [], dp_ints (sql hd2), dp_nil (sql upd_same), shaped_ints _, shaped_ints _, _, rfl, ?_⟩
    rw [eqv_ints]
    generalize upd H1 o (.lst []) = H2 at *
    cases es with
    | cons x r =>
      refine iteT ⟨fun σ' H' => ∃ cu, σ' = [some (.ref a), some (.int many), none, none] ∧ H' a = some (.lst [.ref d, .int cu, .int mix, .int cnt]) ∧ H' d = some (.lst (r.map V.int)) ∧ Same (hid a d H) (hid a d H'),
        fun σ' H' hN => ?_, ?_⟩
      · obtain ⟨cu', e1, e2, e3, e4⟩ := hN
        exact ⟨r.length, by rw [← hl1]; exact Nat.lt_succ_self _, cu', r, e1, e2, e3, rfl, e4⟩
      · refine ⟨_, rfl, a, _, 0, _, rfl, rfl, sql ha2, rfl, .inl ⟨rfl, _, sql hd2⟩, d, _, 0, 0, .int x, rfl, rfl, hd2, by decide, by decide, ?_, rfl, ?_⟩
        · unfold seqIndex?
          simp
        refine ⟨_, rfl, a, _, 1, 1, rfl, rfl, by rw [upd_ne had]; exact ha2, rfl, x, rfl, upd_same, ?_, ?_⟩
        · rw [upd_ne hda, upd_same]
          rfl
        · rw [hid_src1, hid_src2]
          exact sm2
    | nil =>
      refine iteF ?_
      -- if source[1] >= 2
      refine ⟨_, rfl, a, _, 1, _, rfl, rfl, sql ha2, rfl, _, _, rfl, rfl, _, rfl, ite2 (fun e2 => ?_) (fun _ => ?_)⟩
      · have x1 := of_decide_eq_true e
        have x2 := of_decide_eq_true e2
        omega
      refine ⟨_, rfl, a, _, 3, _, rfl, rfl, sql ha2, rfl, _, _, rfl, rfl, _, rfl, a, _, 3, 3, rfl, rfl, ha2, rfl, ?_⟩
      have ha3 : (upd H2 a (.lst [.ref d, .int cu, .int mix, .int (cnt + 1)])) a = some (.lst [.ref d, .int cu, .int mix, .int (cnt + 1)]) := upd_same
      have hd3 : (upd H2 a (.lst [.ref d, .int cu, .int mix, .int (cnt + 1)])) d = some (.lst (([] : List Int).map V.int)) := by rw [upd_ne hda]; exact hd2
      have sm3 : Same (hid a d H) (hid a d (upd H2 a (.lst [.ref d, .int cu, .int mix, .int (cnt + 1)]))) := by rw [hid_src1]; exact sm2
      show tSeq _ _ _ _ (upd H2 a (.lst [.ref d, .int cu, .int mix, .int (cnt + 1)]))
      generalize upd H2 a (.lst [.ref d, .int cu, .int mix, .int (cnt + 1)]) = H3 at *
      refine ⟨_, rfl, a, _, 2, _, rfl, rfl, sql ha3, rfl, _, _, rfl, rfl, _, rfl, a, _, 3, _, rfl, rfl, sql ha3, rfl, _, _, rfl, rfl, _, _, rfl, rfl, ⟨by decide, by decide, by omega⟩, _, _, rfl, rfl, .inl ⟨by omega, by omega⟩, ?_⟩
      refine ⟨_, rfl, _, rfl, a, _, 3, _, rfl, rfl, sql ha3, rfl, _, _, rfl, rfl, .inl ⟨by decide, by decide⟩, _, _, rfl, rfl, _, _, rfl, rfl, ⟨by decide, by decide, by decide⟩, _, _, rfl, rfl, _, _, rfl, rfl, hp3, ?_⟩
      have b1 := Int.emod_nonneg ((mix + 7) * (cnt + 1 + 3) ^ (3 : Int).toNat + 1000081 * (cnt + 1)) (show (2 : Int) ^ (61 : Int).toNat - 1 ≠ 0 by decide)
      have b2 := Int.emod_lt_of_pos ((mix + 7) * (cnt + 1 + 3) ^ (3 : Int).toNat + 1000081 * (cnt + 1)) hp3
      refine ⟨_, rfl, _, _, rfl, rfl, ⟨by decide, by decide, small64 b1 b2 (by decide)⟩, _, _, rfl, rfl, ⟨by decide, by decide, by decide⟩, _, _, rfl, rfl, _, _, rfl, rfl, hp4, _, _, rfl, rfl, wide_div (b := 8) (by decide) (by decide) (by decide) (by decide), _, rfl, _, _, rfl, rfl, hm0, ?_⟩
      exact q H3 _ (Adv.made sm3 ha ha3 hd3 (by omega) (by omega)) (Int.emod_nonneg _ (by omega)) (Int.emod_lt_of_pos _ hm0)
  · -- a digit is left
    refine iteF ?_
    refine ⟨_, rfl, a, _, 1, _, rfl, rfl, sql ha1, rfl, _, _, rfl, rfl, _, rfl, ite2 (fun e2 => ?_) (fun e2 => ?_)⟩
    · refine ⟨_, rfl, a, _, 1, _, rfl, rfl, sql ha1, rfl, _, rfl, _, _, rfl, rfl, hm0, ?_⟩
      refine ⟨_, rfl, a, _, 1, _, rfl, rfl, sql ha1, rfl, _, rfl, _, _, rfl, rfl, wide_div (b := 100) hm0 (by omega) (by decide) (by decide), _, rfl, a, _, 1, 1, rfl, rfl, ha1, rfl, ?_⟩
      refine ⟨_, rfl, q _ _ (Adv.made (cur' := cu / many) (cnt' := cnt) (ds' := es) ?_ ha upd_same ?_ (by omega) (by omega)) (Int.emod_nonneg _ (by omega)) (Int.emod_lt_of_pos _ hm0)⟩
      · rw [hid_src1]
        exact sm1
      · rw [upd_ne hda]
        exact hd1
    · have x1 := of_decide_eq_false (Bool.eq_false_iff.mpr e)
      have x2 := of_decide_eq_false (Bool.eq_false_iff.mpr e2)
      omega

end
end Rn
namespace Rn
open PySem PySem.Spec PyProof.Rows L2
section
variable {P : Program} {w : World} {K : PySem.W.Frag} {mg : Str → Option Value} {base : Heap}
/-- on a word, a number or True, twice -/
def sp_law_same0 (K : PySem.W.Frag) : Sp := fun vs H Q _ => ∃ x : V, vs = [x, x] ∧ ((∃ z : Str, x = .str z) ∨ (∃ z : Int, x = .int z) ∨ ∃ z : Bool, x = .bl z) ∧ Q (.bl true) H
theorem ok_law_same0 (T : Txt P K mg) : FnOk P w K mg base CX0 1 T.f_law_same T.d_law_same ["found", "wanted"] (sp_law_same0 K) := by
  have G_law_same : FnOk P w K mg base CX0 0 T.f_law_same T.d_law_same ["found", "wanted"] (fun _ _ _ _ => False) := ⟨fun _ _ _ _ h => h.elim, fun _ _ _ _ _ _ _ _ _ _ _ _ _ h => h.elim⟩
  refine T.F_law_same.ok sc_law_same (fun vs H Q E h => ?_) (fun cdv A outer s H vs Q E hr h => ?_)
  · obtain ⟨x, rfl, _⟩ := h
    rfl
  obtain ⟨x, rfl, hx, q⟩ := h
  refine ⟨_, (pss_cons (ps_if (pt_cmpR op_isN (pv 1) pe_non (nomark _))
      (pss_one (ps_ret (pe_cmpR op_isN (pv 0) pe_non (nomark _))))
      pss_nil)
      (pss_cons (ps_if (pt_val (pe_callB call_isi (by rfl) T.m_isinstance (by decide +kernel) (pa_cons (pv 1) (pa_cons (pe_bltn (v := .ty "bool") (by rfl) T.m_bool (by decide +kernel) rfl) pa_nil))))
      (pss_one (ps_ret (pe_and (pe_callB call_isi (by rfl) T.m_isinstance (by decide +kernel) (pa_cons (pv 0) (pa_cons (pe_bltn (v := .ty "bool") (by rfl) T.m_bool (by decide +kernel) rfl) pa_nil))) (pe_one (pe_cmpR op_eq (pv 0) (pv 1) (nomark _))))))
      pss_nil)
      (pss_cons (ps_if (pt_val (pe_callB call_isi (by rfl) T.m_isinstance (by decide +kernel) (pa_cons (pv 1) (pa_cons (pe_bltn (v := .ty "int") (by rfl) T.m_int (by decide +kernel) rfl) pa_nil))))
      (pss_one (ps_ret (pe_and (pe_callB call_isi (by rfl) T.m_isinstance (by decide +kernel) (pa_cons (pv 0) (pa_cons (pe_bltn (v := .ty "int") (by rfl) T.m_int (by decide +kernel) rfl) pa_nil))) (pe_and (pe_not (pe_callB call_isi (by rfl) T.m_isinstance (by decide +kernel) (pa_cons (pv 0) (pa_cons (pe_bltn (v := .ty "bool") (by rfl) T.m_bool (by decide +kernel) rfl) pa_nil)))) (pe_one (pe_cmpR op_eq (pv 0) (pv 1) (nomark _)))))))
      pss_nil)
      (pss_cons (ps_if (pt_val (pe_callB call_isi (by rfl) T.m_isinstance (by decide +kernel) (pa_cons (pv 1) (pa_cons (pe_bltn (v := .ty "str") (by rfl) T.m_str (by decide +kernel) rfl) pa_nil))))
      (pss_one (ps_ret (pe_and (pe_callB call_isi (by rfl) T.m_isinstance (by decide +kernel) (pa_cons (pv 0) (pa_cons (pe_bltn (v := .ty "str") (by rfl) T.m_str (by decide +kernel) rfl) pa_nil))) (pe_one (pe_cmpR op_eq (pv 0) (pv 1) (nomark _))))))
      pss_nil)
      (pss_cons (ps_if (pt_cmpR op_ne (pe_callB call_isi (by rfl) T.m_isinstance (by decide +kernel) (pa_cons (pv 0) (pa_cons (pe_bltn (v := .ty "list") (by rfl) T.m_list (by decide +kernel) rfl) pa_nil))) (pe_callB call_isi (by rfl) T.m_isinstance (by decide +kernel) (pa_cons (pv 1) (pa_cons (pe_bltn (v := .ty "list") (by rfl) T.m_list (by decide +kernel) rfl) pa_nil))) (nomark _))
      (pss_one (ps_ret pe_bl))
      pss_nil)
      (pss_cons (ps_if (PW.pt (pw_or (pt_cmpR op_ne (pe_callB call_isi (by rfl) T.m_isinstance (by decide +kernel) (pa_cons (pv 0) (pa_cons (pe_bltn (v := .ty "tuple") (by rfl) T.m_tuple (by decide +kernel) rfl) pa_nil))) (pe_callB call_isi (by rfl) T.m_isinstance (by decide +kernel) (pa_cons (pv 1) (pa_cons (pe_bltn (v := .ty "tuple") (by rfl) T.m_tuple (by decide +kernel) rfl) pa_nil))) (nomark _)) (pw_or1 (pt_cmpR op_ne (pe_callB call_len_seq (by rfl) T.m_len PySem.boot_len (pa_cons (pv 0) pa_nil)) (pe_callB call_len_seq (by rfl) T.m_len PySem.boot_len (pa_cons (pv 1) pa_nil)) (nomark _)))))
      (pss_one (ps_ret pe_bl))
      pss_nil)
      (pss_one (ps_ret (pe_cmpR (op_eqD hr.units) (pe_lc (own := [("k", 2)]) (g := gName 2)  rfl sc_law_same.nd (pi_range1 (by rfl) T.m_range (pa_cons (pe_callB call_len_seq (by rfl) T.m_len PySem.boot_len (pa_cons (pv 1) pa_nil)) pa_nil)) (blkOk_by (N := ["found", "wanted", "k"]) (sc := defScope s_law_same) (by decide +kernel)) (fun _ _ _ _ _ => (pg_name (i := 2) sc_law_same.nd rfl (Or.inl rfl))) (fun _ _ _ _ _ => (pts_one (pt_not (pt_val (pe_call G_law_same hr (by rfl) T.g_law_same T.F_law_same.kp T.b_law_same .nil pass0 (pa_cons (pe_ix (ix_listK (K := K) rfl) (pv 0) (pv 2) (fun _ _ => rfl)) (pa_cons (pe_ix (ix_listK (K := K) rfl) (pv 1) (pv 2) (fun _ _ => rfl)) pa_nil))))))) (fun _ _ _ _ _ => (pv 2))) (pe_lst pa_nil) (nomark _)))))))))), ?_⟩
  rcases hx with ⟨x, rfl⟩ | ⟨x, rfl⟩ | ⟨x, rfl⟩
  · refine ⟨_, rfl, rfl, false, rfl, iteF ?_⟩
    refine ⟨_, rfl, _, _, _, _, false, rfl, .ty "bool", .base (.str x), kit_ty (by decide +kernel), false, rfl, iteF ?_⟩
    refine ⟨_, rfl, _, _, _, _, false, rfl, .ty "int", .base (.str x), kit_ty (by decide +kernel), false, rfl, iteF ?_⟩
    refine ⟨_, rfl, _, _, _, _, true, rfl, .ty "str", .base (.str x), kit_ty (by decide +kernel), true, rfl, iteT ?_⟩
    refine ⟨_, rfl, _, _, _, _, true, rfl, .ty "str", .base (.str x), kit_ty (by decide +kernel), true, rfl, iteT ?_⟩
    refine ⟨_, rfl, _, rfl, rfl, ?_⟩
    rw [decide_eq_true rfl]
    exact q
  · refine ⟨_, rfl, rfl, false, rfl, iteF ?_⟩
    refine ⟨_, rfl, _, _, _, _, false, rfl, .ty "bool", .base (.int x), kit_ty (by decide +kernel), false, rfl, iteF ?_⟩
    refine ⟨_, rfl, _, _, _, _, true, rfl, .ty "int", .base (.int x), kit_ty (by decide +kernel), true, rfl, iteT ?_⟩
    refine ⟨_, rfl, _, _, _, _, true, rfl, .ty "int", .base (.int x), kit_ty (by decide +kernel), true, rfl, iteT ?_⟩
    refine ⟨_, rfl, _, _, _, _, false, rfl, .ty "bool", .base (.int x), kit_ty (by decide +kernel), false, rfl, true, rfl, iteT ?_⟩
    refine ⟨_, rfl, _, rfl, rfl, ?_⟩
    rw [decide_eq_true rfl]
    exact q
  · refine ⟨_, rfl, rfl, false, rfl, iteF ?_⟩
    refine ⟨_, rfl, _, _, _, _, true, rfl, .ty "bool", .base (.bl x), kit_ty (by decide +kernel), true, rfl, iteT ?_⟩
    refine ⟨_, rfl, _, _, _, _, true, rfl, .ty "bool", .base (.bl x), kit_ty (by decide +kernel), true, rfl, iteT ?_⟩
    refine ⟨_, rfl, _, rfl, rfl, ?_⟩
    rw [decide_eq_true rfl]
    exact q
/-- on what is caught and what is due -/
def sp_law_same (K : PySem.W.Frag) : Sp := fun vs H Q _ => ∃ (u v : V) (due : PyData), vs = [u, v] ∧ RE H u due ∧ RE H v due ∧ ∀ H', Same H H' → Q (.bl true) H'
theorem ok_law_same (T : Txt P K mg) : FnOk P w K mg base CX0 2 T.f_law_same T.d_law_same ["found", "wanted"] (sp_law_same K) := by
  have G_law_same := ok_law_same0 (P := P) (w := w) (base := base) T
  refine T.F_law_same.ok sc_law_same (fun vs H Q E h => ?_) (fun cdv A outer s H vs Q E hr h => ?_)
  · obtain ⟨u, v, due, rfl, _⟩ := h
    rfl
  obtain ⟨u, v, due, rfl, hu, hv, k⟩ := h
  refine ⟨_, (pss_cons (ps_if (pt_cmpR op_isN (pv 1) pe_non (nomark _))
      (pss_one (ps_ret (pe_cmpR op_isN (pv 0) pe_non (nomark _))))
      pss_nil)
      (pss_cons (ps_if (pt_val (pe_callB call_isi (by rfl) T.m_isinstance (by decide +kernel) (pa_cons (pv 1) (pa_cons (pe_bltn (v := .ty "bool") (by rfl) T.m_bool (by decide +kernel) rfl) pa_nil))))
      (pss_one (ps_ret (pe_and (pe_callB call_isi (by rfl) T.m_isinstance (by decide +kernel) (pa_cons (pv 0) (pa_cons (pe_bltn (v := .ty "bool") (by rfl) T.m_bool (by decide +kernel) rfl) pa_nil))) (pe_one (pe_cmpR op_eq (pv 0) (pv 1) (nomark _))))))
      pss_nil)
      (pss_cons (ps_if (pt_val (pe_callB call_isi (by rfl) T.m_isinstance (by decide +kernel) (pa_cons (pv 1) (pa_cons (pe_bltn (v := .ty "int") (by rfl) T.m_int (by decide +kernel) rfl) pa_nil))))
      (pss_one (ps_ret (pe_and (pe_callB call_isi (by rfl) T.m_isinstance (by decide +kernel) (pa_cons (pv 0) (pa_cons (pe_bltn (v := .ty "int") (by rfl) T.m_int (by decide +kernel) rfl) pa_nil))) (pe_and (pe_not (pe_callB call_isi (by rfl) T.m_isinstance (by decide +kernel) (pa_cons (pv 0) (pa_cons (pe_bltn (v := .ty "bool") (by rfl) T.m_bool (by decide +kernel) rfl) pa_nil)))) (pe_one (pe_cmpR op_eq (pv 0) (pv 1) (nomark _)))))))
      pss_nil)
      (pss_cons (ps_if (pt_val (pe_callB call_isi (by rfl) T.m_isinstance (by decide +kernel) (pa_cons (pv 1) (pa_cons (pe_bltn (v := .ty "str") (by rfl) T.m_str (by decide +kernel) rfl) pa_nil))))
      (pss_one (ps_ret (pe_and (pe_callB call_isi (by rfl) T.m_isinstance (by decide +kernel) (pa_cons (pv 0) (pa_cons (pe_bltn (v := .ty "str") (by rfl) T.m_str (by decide +kernel) rfl) pa_nil))) (pe_one (pe_cmpR op_eq (pv 0) (pv 1) (nomark _))))))
      pss_nil)
      (pss_cons (ps_if (pt_cmpR op_ne (pe_callB call_isi (by rfl) T.m_isinstance (by decide +kernel) (pa_cons (pv 0) (pa_cons (pe_bltn (v := .ty "list") (by rfl) T.m_list (by decide +kernel) rfl) pa_nil))) (pe_callB call_isi (by rfl) T.m_isinstance (by decide +kernel) (pa_cons (pv 1) (pa_cons (pe_bltn (v := .ty "list") (by rfl) T.m_list (by decide +kernel) rfl) pa_nil))) (nomark _))
      (pss_one (ps_ret pe_bl))
      pss_nil)
      (pss_cons (ps_if (PW.pt (pw_or (pt_cmpR op_ne (pe_callB call_isi (by rfl) T.m_isinstance (by decide +kernel) (pa_cons (pv 0) (pa_cons (pe_bltn (v := .ty "tuple") (by rfl) T.m_tuple (by decide +kernel) rfl) pa_nil))) (pe_callB call_isi (by rfl) T.m_isinstance (by decide +kernel) (pa_cons (pv 1) (pa_cons (pe_bltn (v := .ty "tuple") (by rfl) T.m_tuple (by decide +kernel) rfl) pa_nil))) (nomark _)) (pw_or1 (pt_cmpR op_ne (pe_callB call_len_seq (by rfl) T.m_len PySem.boot_len (pa_cons (pv 0) pa_nil)) (pe_callB call_len_seq (by rfl) T.m_len PySem.boot_len (pa_cons (pv 1) pa_nil)) (nomark _)))))
      (pss_one (ps_ret pe_bl))
      pss_nil)
      (pss_one (ps_ret (pe_cmpR (op_eqD hr.units) (pe_lc (own := [("k", 2)]) (g := gName 2)  rfl sc_law_same.nd (pi_range1 (by rfl) T.m_range (pa_cons (pe_callB call_len_seq (by rfl) T.m_len PySem.boot_len (pa_cons (pv 1) pa_nil)) pa_nil)) (blkOk_by (N := ["found", "wanted", "k"]) (sc := defScope s_law_same) (by decide +kernel)) (fun _ _ _ _ _ => (pg_name (i := 2) sc_law_same.nd rfl (Or.inl rfl))) (fun _ _ _ _ _ => (pts_one (pt_not (pt_val (pe_call G_law_same hr (by rfl) T.g_law_same T.F_law_same.kp T.b_law_same .nil pass0 (pa_cons (pe_ix (ix_listK (K := K) rfl) (pv 0) (pv 2) (fun _ _ => rfl)) (pa_cons (pe_ix (ix_listK (K := K) rfl) (pv 1) (pv 2) (fun _ _ => rfl)) pa_nil))))))) (fun _ _ _ _ _ => (pv 2))) (pe_lst pa_nil) (nomark _)))))))))), ?_⟩
  rcases hu with ⟨rfl, rfl⟩ | ⟨p, nm, i, rfl, rfl, hp⟩ <;> rcases hv with ⟨rfl, e⟩ | ⟨q, nm', i', rfl, e, hq⟩
  · exact ⟨_, rfl, rfl, true, rfl, iteT ⟨_, rfl, rfl, k H (Same.refl _)⟩⟩
  · cases e
  · cases e
  obtain ⟨rfl, rfl⟩ : nm = nm' ∧ i = i' := by
    unfold errD at e
    injection e with e
    injection e with e1 e2
    injection e1 with e1
    injection e2 with e2 _
    injection e2 with e2
    exact ⟨e1, e2⟩
  refine ⟨_, rfl, rfl, false, rfl, iteF ?_⟩
  refine ⟨_, rfl, _, _, _, _, false, rfl, .ty "bool", .base (.lst hq), kit_ty (by decide +kernel), false, rfl, iteF ?_⟩
  refine ⟨_, rfl, _, _, _, _, false, rfl, .ty "int", .base (.lst hq), kit_ty (by decide +kernel), false, rfl, iteF ?_⟩
  refine ⟨_, rfl, _, _, _, _, false, rfl, .ty "str", .base (.lst hq), kit_ty (by decide +kernel), false, rfl, iteF ?_⟩
  refine ⟨_, rfl, _, _, _, _, true, rfl, .ty "list", .base (.lst hp), kit_ty (by decide +kernel), _, rfl, _, _, _, _, true, rfl, .ty "list", .base (.lst hq), kit_ty (by decide +kernel), rfl, false, rfl, iteF ?_⟩
  refine ⟨_, rfl, _, _, _, _, false, rfl, .ty "tuple", .base (.lst hp), kit_ty (by decide +kernel), _, rfl, _, _, _, _, false, rfl, .ty "tuple", .base (.lst hq), kit_ty (by decide +kernel), rfl, false, rfl, iteF ?_⟩
  refine ⟨_, rfl, p, _, rfl, .inl (sql hp), _, rfl, q, _, rfl, .inl (sql hq), rfl, _, rfl, ne_val rfl ?_⟩
  refine ⟨_, rfl, q, _, rfl, .inl (sql hq), _, rfl, (by show -(2 ^ 62) ≤ ((3 : Nat) : Int); decide), (by show ((3 : Nat) : Int) < 2 ^ 62; decide), fun D hD => ?_⟩
  refine lc_range (lo := 0) (n := 3) (fun i H' => H' D = some (.lst []) ∧ Same H H') ⟨upd_same, same_new hD⟩ (fun j H2 hj h => ?_) (fun H2 h => ?_)
  · obtain ⟨hk, sm⟩ := h
    obtain ⟨x, gx, hx⟩ : ∃ x, ([.str nm, .int i, .bl true] : List V)[j]? = some x ∧ ((∃ z : Str, x = .str z) ∨ (∃ z : Int, x = .int z) ∨ ∃ z : Bool, x = .bl z) := by
      rcases j with _ | _ | _ | j
      · exact ⟨_, rfl, .inl ⟨_, rfl⟩⟩
      · exact ⟨_, rfl, .inr (.inl ⟨_, rfl⟩)⟩
      · exact ⟨_, rfl, .inr (.inr ⟨_, rfl⟩)⟩
      · omega
    have ga : atI [.str nm, .int i, .bl true] (0 + (j : Int)) = some x := by
      rw [Int.zero_add]
      exact atI_nat gx
    exact ⟨rfl, _, rfl, _, rfl, p, _, _, x, rfl, rfl, sql (sm _ _ hp), ga, _, rfl, _, rfl, q, _, _, x, rfl, rfl, sql (sm _ _ hq), ga, x, rfl, hx, _, rfl, iteF ⟨hk, sm⟩⟩
  · obtain ⟨hk, sm⟩ := h
    refine ⟨Nat.zero_le _, fun z hz' => ?_⟩
    have sz := same_new (o := .lst []) hz'
    refine ⟨_, _, dp_nil (sql (sz _ _ hk)), dp_nil (sql upd_same), shaped_ints _, shaped_ints _, ?_⟩
    rw [eqv_ints, decide_eq_true rfl]
    exact k _ (sm.trans sz)

end
end Rn
namespace Rn
open PySem PySem.Spec PyProof.Rows L2
section
variable {P : Program} {w : World} {K : PySem.W.Frag} {mg : Str → Option Value} {base : Heap}
def sp_law_wait_drawn (K : PySem.W.Frag) : Sp := fun vs H Q _ => ∃ (a d : Addr) (n : Int), vs = [.ref a] ∧ Src H a d n ∧ n ≤ 100000000000000 ∧
  ∀ H' r, Adv a d 4 H H' → 0 ≤ r → r < 1000000000000 → Q (.int r) H'
theorem ok_law_wait_drawn (T : Txt P K mg) : FnOk P w K mg base CX0 2 T.f_law_wait_drawn T.d_law_wait_drawn ["source"] (sp_law_wait_drawn K) := by
  have G_law_draw := ok_law_draw (P := P) (w := w) (base := base) T
  refine T.F_law_wait_drawn.ok sc_law_wait_drawn (fun vs H Q E h => ?_) (fun cdv A outer s H vs Q E hr h => ?_)
  · obtain ⟨a, d, n, rfl, _⟩ := h
    rfl
  obtain ⟨a, d, n, rfl, hS, hn, q⟩ := h
  refine ⟨_, (pss_cons (ps_set (i := 1) sc_law_wait_drawn.nd rfl (Or.inl rfl) (pe_lst (pa_cons pe_int (pa_cons pe_int (pa_cons (pe_call G_law_draw hr (by rfl) T.g_law_draw T.F_law_draw.kp T.b_law_draw .nil pass0 (pa_cons (pv 0) (pa_cons pe_int pa_nil))) (pa_cons (pe_call G_law_draw hr (by rfl) T.g_law_draw T.F_law_draw.kp T.b_law_draw .nil pass0 (pa_cons (pv 0) (pa_cons pe_int pa_nil))) (pa_cons (pe_op op_sub (pe_op op_sub (pe_op op_pow pe_int pe_int) pe_int) (pe_call G_law_draw hr (by rfl) T.g_law_draw T.F_law_draw.kp T.b_law_draw .nil pass0 (pa_cons (pv 0) (pa_cons pe_int pa_nil)))) pa_nil)))))))
      (pss_one (ps_ret (pe_ix ix_list (pv 1) (pe_call G_law_draw hr (by rfl) T.g_law_draw T.F_law_draw.kp T.b_law_draw .nil pass0 (pa_cons (pv 0) (pa_cons pe_int pa_nil))) (fun _ _ => rfl))))), ?_⟩
  refine ⟨_, rfl, a, d, n, 3, rfl, hS, by omega, by decide, by decide, fun H1 r1 A1 l1 u1 => ?_⟩
  have S1 := A1.src n hS
  refine ⟨_, rfl, a, d, n + 1, 100, rfl, S1, by omega, by decide, by decide, fun H2 r2 A2 l2 u2 => ?_⟩
  have S2 := A2.src _ S1
  refine ⟨_, _, rfl, rfl, ⟨by decide, by decide, by decide⟩, _, _, rfl, rfl, _, rfl, a, d, n + 1 + 1, 9, rfl, S2, by omega, by decide, by decide, fun H3 r3 A3 l3 u3 => ?_⟩
  have S3 := A3.src _ S2
  refine ⟨_, _, rfl, rfl, size_le (by show 5 ≤ 100000; decide), fun o ho => ?_⟩
  have A4 : Adv a d 3 H (upd H3 o (.lst [.int 0, .int 1, .int r1, .int r2, .int (10 ^ (12 : Int).toNat - 1 - r3)])) := ((A1.trans A2 (Int.le_refl _)).trans A3 (Int.le_refl _)).trans (Adv.of (same_new ho)) (by decide)
  have no := S3.new1 ho
  have S4 : Src (upd H3 o (.lst [.int 0, .int 1, .int r1, .int r2, .int (10 ^ (12 : Int).toNat - 1 - r3)])) a d (n + 1 + 1 + 1) := S3.keep no.1 no.2
  have ho4 : hid a d (upd H3 o (.lst [.int 0, .int 1, .int r1, .int r2, .int (10 ^ (12 : Int).toNat - 1 - r3)])) o = some (.lst ([0, 1, r1, r2, 10 ^ (12 : Int).toNat - 1 - r3].map V.int)) := by
    rw [hid_oth no.1 no.2, upd_same]
    rfl
  -- some[..]
  refine ⟨_, rfl, _, rfl, a, d, n + 1 + 1 + 1, 5, rfl, S4, by omega, by decide, by decide, fun H5 r5 A5 l5 u5 => ?_⟩
  obtain ⟨x, hx, _, hat⟩ := at_int (ns := [0, 1, r1, r2, 10 ^ (12 : Int).toNat - 1 - r3]) l5 u5
  have hb : 0 ≤ x ∧ x < 1000000000000 := by
    have pw : (10 : Int) ^ (12 : Int).toNat = 1000000000000 := by decide
    rw [pw] at hx
    simp only [List.mem_cons, List.not_mem_nil, or_false] at hx
    omega
  exact ⟨o, _, r5, .int x, rfl, rfl, sql (hid_get (A5.same _ _ ho4)).1, hat, q H5 x (A4.trans A5 (by decide)) hb.1 hb.2⟩

end
end Rn
namespace Rn
open PySem PySem.Spec PyProof.Rows L2
section
variable {P : Program} {w : World} {K : PySem.W.Frag} {mg : Str → Option Value} {base : Heap}
def sp_law_policy (K : PySem.W.Frag) : Sp := fun vs H Q _ => ∃ (a d : Addr) (n most : Int), vs = [.ref a, .int most] ∧ Src H a d n ∧ n ≤ 10000000000000 ∧ 0 ≤ most ∧ most ≤ 1000 ∧
  ∀ H' p ws, Adv a d (20 + 6 * most) H H' → H p = none → hid a d H' p = some (.lst ((ws : List Int).map V.int)) → (ws.length : Int) ≤ most → (∀ x ∈ ws, 0 ≤ x ∧ x < 1000000000000) → Q (.ref p) H'
theorem ok_law_policy (T : Txt P K mg) : FnOk P w K mg base CX0 3 T.f_law_policy T.d_law_policy ["source", "most"] (sp_law_policy K) := by
  have G_law_draw := (ok_law_draw (P := P) (w := w) (base := base) T).mono (by decide : 1 ≤ 2)
  have G_law_wait_drawn := ok_law_wait_drawn (P := P) (w := w) (base := base) T
  refine T.F_law_policy.ok sc_law_policy (fun vs H Q E h => ?_) (fun cdv A outer s H vs Q E hr h => ?_)
  · obtain ⟨a, d, n, most, rfl, _⟩ := h
    rfl
  obtain ⟨a, d, n, most, rfl, hS, hn, hm0, hm1, q⟩ := h
  refine ⟨_, (pss_cons (ps_setLc (i := 2) (own := [("k", 4)]) (g := gName 4) (tt := tYes) rfl sc_law_policy.nd rfl rfl (sw_true rfl rfl rfl (by decide +kernel)) (pi_range1 (by rfl) T.m_range (pa_cons (pe_op op_add pe_int (pe_call G_law_draw hr (by rfl) T.g_law_draw T.F_law_draw.kp T.b_law_draw .nil pass0 (pa_cons (pv 0) (pa_cons pe_int pa_nil)))) pa_nil)) (blkOk_by (N := ["source", "most", "kinds", "found", "k"]) (sc := defScope s_law_policy) (by decide +kernel)) (fun _ _ _ _ _ => (pg_name (i := 4) sc_law_policy.nd rfl (Or.inl rfl))) (fun _ _ _ _ _ => pts_nil) (fun _ _ _ _ _ => (pe_call G_law_wait_drawn hr (by rfl) T.g_law_wait_drawn T.F_law_wait_drawn.kp T.b_law_wait_drawn .nil pass0 (pa_cons (pv 0) pa_nil))))
      (pss_cons (ps_set (i := 3) sc_law_policy.nd rfl (Or.inl rfl) (pe_lst pa_nil))
      (pss_cons (ps_for PassesOwn.never rfl (pi_range1 (by rfl) T.m_range (pa_cons (pe_call G_law_draw hr (by rfl) T.g_law_draw T.F_law_draw.kp T.b_law_draw .nil pass0 (pa_cons (pv 0) (pa_cons (pe_op op_add (pv 1) pe_int) pa_nil))) pa_nil)) (pg_name (i := 4) sc_law_policy.nd rfl (Or.inl rfl))
      (pss_one (ps_expr (pe_bm PySem.F.plainAttrs_list PySem.F.slot_list_append PySem.F.type_list_append mt_append (pv 3) (pa_cons (pe_ifExp (pt_cmpR op_gt (pe_call G_law_draw hr (by rfl) T.g_law_draw T.F_law_draw.kp T.b_law_draw .nil pass0 (pa_cons (pv 0) (pa_cons pe_int pa_nil))) pe_int (nomark _)) (pe_ix ix_list (pv 2) (pe_call G_law_draw hr (by rfl) T.g_law_draw T.F_law_draw.kp T.b_law_draw .nil pass0 (pa_cons (pv 0) (pa_cons (pe_callB call_len_seq (by rfl) T.m_len PySem.boot_len (pa_cons (pv 2) pa_nil)) pa_nil))) (fun _ _ => rfl)) (pe_call G_law_wait_drawn hr (by rfl) T.g_law_wait_drawn T.F_law_wait_drawn.kp T.b_law_wait_drawn .nil pass0 (pa_cons (pv 0) pa_nil))) pa_nil)))))
      (pss_one (ps_ret (pv 3)))))), ?_⟩
  -- kinds
  refine ⟨_, rfl, a, d, n, 3, rfl, hS, by omega, by decide, by decide, fun H1 r1 A1 l1 u1 => ?_⟩
  have S1 := A1.src n hS
  refine ⟨_, _, rfl, rfl, _, rfl, by omega, by omega, fun D hD => ?_⟩
  have hD0 : hid a d H1 D = none := hid_none hD
  have nD := S1.new1 hD
  refine lc_range (lo := 0) (n := (1 + r1).toNat) (fun i H' => ∃ ks : List Int, hid a d H' D = some (.lst (ks.map V.int)) ∧ ks.length = i ∧ (∀ x ∈ ks, 0 ≤ x ∧ x < 1000000000000) ∧ Adv a d (1 + 4 * i) H H')
    ⟨[], by rw [hid_oth nD.1 nD.2, upd_same]; rfl, rfl, (fun _ z => nomatch z), (A1.trans (Adv.of (same_new hD)) (Int.le_refl _)).mono (by omega)⟩ (fun i H2 hi h => ?_) (fun H2 h => ?_)
  · obtain ⟨ks, hk, hkl, hkb, A2⟩ := h
    have S2 := A2.src n hS
    refine ⟨rfl, _, rfl, a, d, n + (1 + 4 * i), rfl, S2, by omega, fun H3 x A3 l3 u3 => ?_⟩
    have hk3 := A3.same _ _ hk
    have S3 := A3.src _ S2
    refine ⟨_, (hid_get hk3).1, size_lt (by rw [List.length_map]; omega), ks ++ [x], ?_, by rw [List.length_append, hkl]; rfl, ?_, ?_⟩
    · rw [hid_oth nD.1 nD.2, upd_same, List.map_append]
      rfl
    · intro y hy
      rcases List.mem_append.mp hy with z | z
      · exact hkb y z
      · rw [List.mem_singleton.mp z]
        exact ⟨l3, u3⟩
    · have hDH : H D = none := A1.free hS hD
      exact ((A2.trans A3 (Int.le_refl _)).mut hS hDH).mono (by omega)
  · obtain ⟨ks, hk, hkl, hkb, A2⟩ := h
    have S2 := A2.src n hS
    have hkn : 1 ≤ ks.length ∧ ks.length ≤ 3 := by omega
    -- found = []
    refine ⟨Nat.zero_le _, fun p hp => ?_⟩
    have np := S2.new1 hp
    have A3 : Adv a d 13 H (upd H2 p (.lst [])) := (A2.trans (Adv.of (same_new hp)) (Int.le_refl _)).mono (by omega)
    have hpH : H p = none := A2.free hS hp
    have hk3 : hid a d (upd H2 p (.lst [])) D = some (.lst (ks.map V.int)) := hid_same (same_new hp) _ _ hk
    have hp3 : hid a d (upd H2 p (.lst [])) p = some (.lst (([] : List Int).map V.int)) := by
      rw [hid_oth np.1 np.2, upd_same]
      rfl
    have nDp : D ≠ p := fun z => by rw [z] at hk; rw [hid_none hp] at hk; cases hk
    generalize upd H2 p (.lst []) = H3 at *
    have S3 := A3.src n hS
    refine ⟨_, rfl, _, rfl, _, _, rfl, rfl, a, d, n + 13, most + 1, rfl, S3, by omega, by omega, by omega, fun H4 r4 A4 l4 u4 => ⟨_, rfl, by omega, by omega, ?_⟩⟩
    refine for_range (lo := 0) (n := r4.toNat) (fun i σ H' => ∃ y4 ws, σ = [some (.ref a), some (.int most), some (.ref D), some (.ref p), y4] ∧ Adv a d (14 + 6 * i) H H' ∧ hid a d H' D = some (.lst (ks.map V.int)) ∧
        hid a d H' p = some (.lst ((ws : List Int).map V.int)) ∧ ws.length = i ∧ (∀ x ∈ ws, 0 ≤ x ∧ x < 1000000000000))
      ⟨none, [], rfl, (A3.trans A4 (Int.le_refl _)).mono (by omega), A4.same _ _ hk3, A4.same _ _ hp3, rfl, (fun _ z => nomatch z)⟩ (fun i σ H5 hi h => ?_) (fun σ H5 h => ?_)
    · obtain ⟨y4, ws, rfl, A5, hk5, hp5, hl5, hb5⟩ := h
      have S5 := A5.src n hS
      refine ⟨_, rfl, .inl ⟨rfl, _, sql (hid_get hp5).1⟩, ?_⟩
      refine ⟨_, rfl, a, d, n + (14 + 6 * i), 4, rfl, S5, by omega, by decide, by decide, fun H6 r6 A6 l6 u6 => ?_⟩
      have S6 := A6.src _ S5
      have hk6 := A6.same _ _ hk5
      have hp6 := A6.same _ _ hp5
      -- the end of a turn
      have fin : ∀ H7 x, Adv a d 4 H6 H7 → 0 ≤ x → x < 1000000000000 → H7 p = some (.lst (ws.map V.int)) ∧ (ws.map V.int).length < sizeLine ∧
          (∃ y4 ws', [some (V.ref a), some (.int most), some (.ref D), some (.ref p), some (.int (0 + (i : Int)))] = [some (.ref a), some (.int most), some (.ref D), some (.ref p), y4] ∧ Adv a d (14 + 6 * ((i + 1 : Nat) : Int)) H (upd H7 p (.lst (ws.map V.int ++ [.int x]))) ∧
            hid a d (upd H7 p (.lst (ws.map V.int ++ [.int x]))) D = some (.lst (ks.map V.int)) ∧ hid a d (upd H7 p (.lst (ws.map V.int ++ [.int x]))) p = some (.lst ((ws' : List Int).map V.int)) ∧ ws'.length = i + 1 ∧ (∀ x ∈ ws', 0 ≤ x ∧ x < 1000000000000)) := by
        intro H7 x A7 l7 u7
        have hp7 := A7.same _ _ hp6
        refine ⟨(hid_get hp7).1, size_lt (by rw [List.length_map]; omega), _, ws ++ [x], rfl, ?_, ?_, ?_, by rw [List.length_append, hl5]; rfl, ?_⟩
        · exact ((((A5.trans A6 (Int.le_refl _)).trans A7 (Int.le_refl _)).mut hS hpH)).mono (by omega)
        · rw [hid_oth np.1 np.2, upd_ne nDp]
          exact A7.same _ _ hk6
        · rw [hid_oth np.1 np.2, upd_same, List.map_append]
          rfl
        · intro y hy
          rcases List.mem_append.mp hy with z | z
          · exact hb5 y z
          · rw [List.mem_singleton.mp z]
            exact ⟨l7, u7⟩
      refine ⟨_, _, rfl, rfl, _, rfl, ite2 (fun e => ?_) (fun e => ?_)⟩
      · -- kinds[..]
        refine ⟨_, rfl, _, rfl, _, rfl, D, _, rfl, .inl (sql (hid_get hk6).1), a, d, n + (14 + 6 * i) + 1, ks.length, (by rw [List.length_map]; rfl), S6, by omega, by omega, by omega, fun H7 r7 A7 l7 u7 => ?_⟩
        obtain ⟨x, hx, _, hat⟩ := at_int l7 u7
        refine ⟨D, _, r7, .int x, rfl, rfl, sql (hid_get (A7.same _ _ hk6)).1, hat, ?_⟩
        obtain ⟨f1, f2, f3⟩ := fin H7 x (A7.mono (by decide)) (hkb x hx).1 (hkb x hx).2
        exact ⟨p, _, _, rfl, rfl, f1, f2, f3⟩
      · refine ⟨_, rfl, a, d, n + (14 + 6 * i) + 1, rfl, S6, by omega, fun H7 x A7 l7 u7 => ?_⟩
        obtain ⟨f1, f2, f3⟩ := fin H7 x A7 l7 u7
        exact ⟨p, _, _, rfl, rfl, f1, f2, f3⟩
    · obtain ⟨y4, ws, rfl, A5, hk5, hp5, hl5, hb5⟩ := h
      exact ⟨_, rfl, q H5 p ws (A5.mono (by omega)) hpH hp5 (by omega) hb5⟩

end
end Rn
namespace Rn
open PySem PySem.Spec PyProof.Rows L2
section
variable {P : Program} {w : World} {K : PySem.W.Frag} {mg : Str → Option Value} {base : Heap}
def sp_law_nesting (K : PySem.W.Frag) : Sp := fun vs H Q _ => ∃ (a d : Addr) (n layers most : Int), vs = [.ref a, .int layers, .int most] ∧ Src H a d n ∧ n ≤ 1000000000000 ∧ 0 ≤ layers ∧ layers ≤ 20 ∧ 1 ≤ most ∧ most ≤ 10000 ∧
  ∀ H' p us Ls, Adv a d (10 + 500 * layers) H H' → H p = none → NestV H (hid a d H') p us Ls → (Ls.length : Int) ≤ layers → (∀ L ∈ Ls, L.nice) → attOf Ls ≤ most → Q (.ref p) H'
theorem ok_law_nesting (T : Txt P K mg) : FnOk P w K mg base CX0 4 T.f_law_nesting T.d_law_nesting ["source", "layers", "most"] (sp_law_nesting K) := by
  have G_law_draw := (ok_law_draw (P := P) (w := w) (base := base) T).mono (by decide : 1 ≤ 3)
  have G_law_wait_drawn := (ok_law_wait_drawn (P := P) (w := w) (base := base) T).mono (by decide : 2 ≤ 3)
  have G_law_policy := ok_law_policy (P := P) (w := w) (base := base) T
  refine T.F_law_nesting.ok sc_law_nesting (fun vs H Q E h => ?_) (fun cdv A outer s H vs Q E hr h => ?_)
  · obtain ⟨a, d, n, layers, most, rfl, _⟩ := h
    rfl
  obtain ⟨a, d, n, layers, most, rfl, hS, hn, hl0, hl1, hm0, hm1, q⟩ := h
  refine ⟨_, (pss_cons (ps_par (i := 3) (j := 4) (by rfl) sc_law_nesting.nd rfl rfl (by decide) rfl rfl (pa_cons (pe_lst pa_nil) (pa_cons (pv 2) pa_nil)) (by rfl))
      (pss_cons (ps_for PassesOwn.never rfl (pi_range1 (by rfl) T.m_range (pa_cons (pe_call G_law_draw hr (by rfl) T.g_law_draw T.F_law_draw.kp T.b_law_draw .nil pass0 (pa_cons (pv 0) (pa_cons (pe_op op_add (pv 1) pe_int) pa_nil))) pa_nil)) (pg_name (i := 5) sc_law_nesting.nd rfl (Or.inl rfl))
      (pss_cons (ps_set (i := 6) sc_law_nesting.nd rfl (Or.inl rfl) (pe_call G_law_policy hr (by rfl) T.g_law_policy T.F_law_policy.kp T.b_law_policy .nil pass0 (pa_cons (pv 0) (pa_cons (pe_ix ix_list (pe_lst (pa_cons pe_int (pa_cons pe_int (pa_cons pe_int (pa_cons pe_int pa_nil))))) (pe_call G_law_draw hr (by rfl) T.g_law_draw T.F_law_draw.kp T.b_law_draw .nil pass0 (pa_cons (pv 0) (pa_cons pe_int pa_nil))) (fun _ _ => rfl)) pa_nil))))
      (pss_cons (ps_set (i := 7) sc_law_nesting.nd rfl (Or.inl rfl) (pe_ix ix_list (pe_lst (pa_cons pe_int (pa_cons pe_int (pa_cons pe_int (pa_cons (pe_op op_add pe_int (pe_call G_law_draw hr (by rfl) T.g_law_draw T.F_law_draw.kp T.b_law_draw .nil pass0 (pa_cons (pv 0) (pa_cons pe_int pa_nil)))) (pa_cons (pe_op op_add pe_int (pe_call G_law_draw hr (by rfl) T.g_law_draw T.F_law_draw.kp T.b_law_draw .nil pass0 (pa_cons (pv 0) (pa_cons (pv 4) pa_nil)))) pa_nil)))))) (pe_call G_law_draw hr (by rfl) T.g_law_draw T.F_law_draw.kp T.b_law_draw .nil pass0 (pa_cons (pv 0) (pa_cons pe_int pa_nil))) (fun _ _ => rfl)))
      (pss_one (ps_if (PW.pt (pw_and (pt_cmpR op_eq (pe_call G_law_draw hr (by rfl) T.g_law_draw T.F_law_draw.kp T.b_law_draw .nil pass0 (pa_cons (pv 0) (pa_cons pe_int pa_nil))) pe_int (nomark _)) (pw_and1 (pt_cmpR op_le (pv 7) (pv 4) (nomark _)))))
      (pss_cons (ps_expr (pe_bm PySem.F.plainAttrs_list PySem.F.slot_list_append PySem.F.type_list_append mt_append (pv 3) (pa_cons (pe_tup (pa_cons (pe_call G_law_wait_drawn hr (by rfl) T.g_law_wait_drawn T.F_law_wait_drawn.kp T.b_law_wait_drawn .nil pass0 (pa_cons (pv 0) pa_nil)) (pa_cons (pv 7) pa_nil))) pa_nil)))
      (pss_one (ps_set (i := 4) sc_law_nesting.nd rfl (Or.inl rfl) (pe_op op_fdivW (pv 4) (pv 7)))))
      (pss_one (ps_if (pt_cmpR op_lt (pe_callB call_len_seq (by rfl) T.m_len PySem.boot_len (pa_cons (pv 6) pa_nil)) (pv 4) (nomark _))
      (pss_cons (ps_expr (pe_bm PySem.F.plainAttrs_list PySem.F.slot_list_append PySem.F.type_list_append mt_append (pv 3) (pa_cons (pv 6) pa_nil)))
      (pss_one (ps_set (i := 4) sc_law_nesting.nd rfl (Or.inl rfl) (pe_op op_fdivW (pv 4) (pe_op op_add (pe_callB call_len_seq (by rfl) T.m_len PySem.boot_len (pa_cons (pv 6) pa_nil)) pe_int)))))
      pss_nil)))))))
      (pss_one (ps_ret (pv 3))))), ?_⟩
  -- found, left = [], most
  refine ⟨Nat.zero_le _, fun p hp => ⟨_, rfl, _, _, rfl, ?_⟩⟩
  have np := hS.new1 hp
  have A1 : Adv a d 0 H (upd H p (.lst [])) := Adv.of (same_new hp)
  have e1 : hid a d (upd H p (.lst [])) p = some (.lst []) := by rw [hid_oth np.1 np.2, upd_same]
  have S1 := A1.src _ hS
  generalize upd H p (.lst []) = H1 at *
  -- for k in range(..)
  refine ⟨_, rfl, _, rfl, _, _, rfl, rfl, a, d, _, layers + 1, rfl, S1, by omega, by omega, by omega, fun H2 r2 A2 l2 u2 => ⟨_, rfl, by omega, by omega, ?_⟩⟩
  refine for_range (lo := 0) (n := r2.toNat) (fun i σ H' => ∃ us Ls left y5 y6 y7, σ = [some (.ref a), some (.int layers), some (.int most), some (.ref p), some (.int left), y5, y6, y7] ∧ NestV H (hid a d H') p us Ls ∧ Ls.length ≤ i ∧ (∀ L ∈ Ls, L.nice) ∧
      1 ≤ left ∧ attOf Ls * left ≤ most ∧ Adv a d (1 + 500 * i) H H')
    ⟨[], [], most, none, none, none, rfl, NestV.nil (A2.same _ _ e1), Nat.le_refl _, (fun _ z => nomatch z), hm0, by rw [show attOf [] = 1 from rfl]; omega, (A1.trans A2 (Int.le_refl _)).mono (by omega)⟩ (fun i σ H3 hi h => ?_) (fun σ H3 h => ?_)
  · obtain ⟨us, Ls, left, y5, y6, y7, rfl, hv, hlen, hnice, hleft, hatt, A3⟩ := h
    have S3 := A3.src n hS
    have lus : us.length ≤ i := by rw [hv.2.1]; exact hlen
    have hok : ∀ L ∈ Ls, L.ok = true := fun L hL => (hnice L hL).1
    have tpos := attOf_pos hok
    have lmost : left ≤ most := by
      have : 1 * left ≤ attOf Ls * left := Int.mul_le_mul_of_nonneg_right tpos (by omega)
      omega
    -- some = _law_policy(source, [1, 3, 6, 59][..])
    refine ⟨_, rfl, size_le (by show 4 ≤ 100000; decide), fun o ho => ?_⟩
    have no := S3.new1 ho
    have A4 : Adv a d 0 H3 (upd H3 o (.lst [.int 1, .int 3, .int 6, .int 59])) := Adv.of (same_new ho)
    have ho4 : hid a d (upd H3 o (.lst [.int 1, .int 3, .int 6, .int 59])) o = some (.lst (([1, 3, 6, 59] : List Int).map V.int)) := by
      rw [hid_oth no.1 no.2, upd_same]
      rfl
    have S4 := A4.src _ S3
    generalize upd H3 o (.lst [.int 1, .int 3, .int 6, .int 59]) = H4 at *
    refine ⟨_, rfl, a, d, _, 4, rfl, S4, by omega, by decide, by decide, fun H5 r5 A5 l5 u5 => ?_⟩
    obtain ⟨m1, hm1', _, hat1⟩ := at_int (ns := [1, 3, 6, 59]) l5 u5
    have hm1b : 0 ≤ m1 ∧ m1 ≤ 59 := by simp at hm1'; omega
    have S5 := A5.src _ S4
    refine ⟨o, _, r5, .int m1, rfl, rfl, sql (hid_get (A5.same _ _ ho4)).1, hat1, ?_⟩
    refine ⟨a, d, _, m1, rfl, S5, by omega, by omega, by omega, fun H6 ps ws A6 f6 e6 l6 b6 => ?_⟩
    have B5 : Adv a d 1 H3 H5 := (A4.trans A5 (Int.le_refl _)).mono (by omega)
    have B6 : Adv a d 375 H3 H6 := (B5.trans A6 (Int.le_refl _)).mono (by omega)
    have psp : ps ≠ p := fun z => by
      have := (hid_get (B5.same _ _ hv.1)).1
      rw [← z, f6] at this
      cases this
    have psH : H ps = none := (A3.trans B5 (Int.le_refl _)).free hS f6
    have S6 := B6.src _ S3
    have hv6 := hv.same B6.same
    clear A4 A5 A6 B5 S4 S5 ho4 hat1
    -- size = [1, 2, 3, 1 + .., 1 + ..][..]
    refine ⟨_, rfl, a, d, _, 12, rfl, S6, by omega, by decide, by decide, fun H7 r7 A7 l7 u7 => ⟨_, _, rfl, rfl, ?_⟩⟩
    have S7 := A7.src _ S6
    refine ⟨_, rfl, _, rfl, a, d, _, left, rfl, S7, by omega, by omega, by omega, fun H8 r8 A8 l8 u8 => ⟨_, _, rfl, rfl, size_le (by show 5 ≤ 100000; decide), fun o9 h9 => ?_⟩⟩
    have S8 := A8.src _ S7
    have n9 := S8.new1 h9
    have A9 : Adv a d 0 H8 (upd H8 o9 (.lst [.int 1, .int 2, .int 3, .int (1 + r7), .int (1 + r8)])) := Adv.of (same_new h9)
    have e9 : hid a d (upd H8 o9 (.lst [.int 1, .int 2, .int 3, .int (1 + r7), .int (1 + r8)])) o9 = some (.lst (([1, 2, 3, 1 + r7, 1 + r8] : List Int).map V.int)) := by
      rw [hid_oth n9.1 n9.2, upd_same]
      rfl
    have S9 := A9.src _ S8
    generalize upd H8 o9 (.lst [.int 1, .int 2, .int 3, .int (1 + r7), .int (1 + r8)]) = H9 at *
    refine ⟨_, rfl, a, d, _, 5, rfl, S9, by omega, by decide, by decide, fun H10 r10 A10 l10 u10 => ?_⟩
    obtain ⟨sz, hsz, _, hat2⟩ := at_int (ns := [1, 2, 3, 1 + r7, 1 + r8]) l10 u10
    have hszb : 1 ≤ sz ∧ sz ≤ 20000 := by
      simp only [List.mem_cons, List.not_mem_nil, or_false] at hsz
      omega
    refine ⟨o9, _, r10, .int sz, rfl, rfl, sql (hid_get (A10.same _ _ e9)).1, hat2, ?_⟩
    have B10 : Adv a d 378 H3 H10 := ((((B6.trans A7 (Int.le_refl _)).trans A8 (Int.le_refl _)).trans A9 (Int.le_refl _)).trans A10 (Int.le_refl _)).mono (by omega)
    have C10 : Same (hid a d H6) (hid a d H10) := ((A7.same.trans A8.same).trans A9.same).trans A10.same
    have hv10 := hv6.same C10
    have e10 := C10 _ _ e6
    have S10 := B10.src _ S3
    clear A7 A8 A9 A10 S7 S8 S9 e9 hat2 hv6 e6 B6 C10 S6
    -- if _law_draw(source, 2) == 0 and size <= left
    refine ⟨_, rfl, a, d, _, 2, rfl, S10, by omega, by decide, by decide, fun H11 r11 A11 l11 u11 => ?_⟩
    have S11 := A11.src _ S10
    have hv11 := hv10.same A11.same
    have e11 := A11.same _ _ e10
    have B11 : Adv a d 379 H3 H11 := (B10.trans A11 (Int.le_refl _)).mono (by omega)
    refine ⟨rfl, _, rfl, ite2 (fun e => ⟨_, rfl, _, rfl, _, _, rfl, rfl, _, rfl, ite2 (fun e2 => ?con) (fun e2 => ?els)⟩) (fun e => iteF ?els2)⟩
    case con =>
      have e2' := of_decide_eq_true e2
      refine ⟨_, rfl, .inl ⟨rfl, _, sql (hid_get hv11.1).1⟩, ?_⟩
      refine ⟨_, rfl, a, d, _, rfl, S11, by omega, fun H12 x A12 lx ux => ⟨_, rfl, size_le (by show 2 ≤ 100000; decide), fun t ht => ?_⟩⟩
      have S12 := A12.src _ S11
      have nt := S12.new1 ht
      have hv12 := hv11.same A12.same
      have htp : t ≠ p := fun z => by
        have := (hid_get hv12.1).1
        rw [← z, ht] at this
        cases this
      have B12 : Adv a d 383 H3 H12 := (B11.trans A12 (Int.le_refl _)).mono (by omega)
      have htH : H t = none := (A3.trans B12 (Int.le_refl _)).free hS ht
      have s13 := same_new (o := .tup [.int x, .int sz]) ht
      have hv13 := hv12.same (hid_same (a := a) (d := d) s13)
      have B13 : Adv a d 383 H3 (upd H12 t (.tup [.int x, .int sz])) := (B12.trans (Adv.of s13) (Int.le_refl _)).mono (by omega)
      have et : hid a d (upd H12 t (.tup [.int x, .int sz])) t = some (.tup [.int x, .int sz]) := by rw [hid_oth nt.1 nt.2, upd_same]
      generalize upd H12 t (.tup [.int x, .int sz]) = H13 at *
      refine ⟨p, _, _, rfl, rfl, (hid_get hv13.1).1, size_lt (by omega), ?_⟩
      have pl := part_left (c := sz) tpos hszb.1 e2' hatt
      refine ⟨_, rfl, _, rfl, _, _, rfl, rfl, wide_div (b := 20) (by omega) (by omega) (by decide) (by decide), us ++ [.ref t], Ls ++ [.con x sz], _, _, _, _, rfl, ?_, ?_, ?_, pl.1, ?_, ?_⟩
      · rw [hid_oth np.1 np.2]
        exact hv13.push ⟨t, rfl, et⟩ htp htH
      · rw [List.length_append]
        exact Nat.succ_le_succ hlen
      · intro L hL
        rcases List.mem_append.mp hL with z | z
        · exact hnice L z
        · rw [List.mem_singleton.mp z]
          exact Lay.nice_con lx ux hszb.1 (by omega)
      · rw [attOf_snoc]
        exact pl.2
      · exact ((A3.trans B13 (Int.le_refl _)).mut hS hp).mono (by omega)
    all_goals
      refine ⟨_, rfl, ps, _, rfl, .inl (sql (hid_get e11).1), _, rfl, _, _, rfl, rfl, _, rfl, ite2 (fun e3 => ?_) (fun _ => ?_)⟩
      · have e3' := of_decide_eq_true e3
        rw [List.length_map] at e3'
        refine ⟨_, rfl, .inl ⟨rfl, _, sql (hid_get hv11.1).1⟩, _, rfl, p, _, _, rfl, rfl, (hid_get hv11.1).1, size_lt (by omega), ?_⟩
        have pl := part_left (c := (ws.length : Int) + 1) tpos (by omega) (by omega) hatt
        have hps : (upd H11 p (.lst (us ++ [.ref ps]))) ps = some (.lst (ws.map V.int)) := by
          rw [upd_ne psp]
          exact (hid_get e11).1
        refine ⟨_, rfl, _, rfl, ps, _, rfl, .inl (sql hps), _, _, rfl, rfl, _, _, rfl, rfl, wide_div (b := 20) (by omega) (by rw [List.length_map]; omega) (by decide) (by decide), us ++ [.ref ps], Ls ++ [.pol ws], (left / ((ws.length : Int) + 1)), some (.int (0 + (i : Int))), some (.ref ps), some (.int sz), ?_, ?_, ?_, ?_, pl.1, ?_, ?_⟩
        · rw [List.length_map]
          rfl
        · rw [hid_oth np.1 np.2]
          exact hv11.push ⟨ps, rfl, e11⟩ psp psH
        · rw [List.length_append]
          exact Nat.succ_le_succ hlen
        · intro L hL
          rcases List.mem_append.mp hL with z | z
          · exact hnice L z
          · rw [List.mem_singleton.mp z]
            exact Lay.nice_pol (by omega) b6
        · rw [attOf_snoc]
          exact pl.2
        · exact ((A3.trans B11 (Int.le_refl _)).mut hS hp).mono (by omega)
      · exact ⟨us, Ls, left, _, _, _, rfl, hv11, Nat.le_succ_of_le hlen, hnice, hleft, hatt, (A3.trans B11 (Int.le_refl _)).mono (by omega)⟩
  · obtain ⟨us, Ls, left, y5, y6, y7, rfl, hv, hlen, hnice, hleft, hatt, A3⟩ := h
    have tpos := attOf_pos fun L hL => (hnice L hL).1
    exact ⟨_, rfl, q H3 p us Ls (A3.mono (by omega)) hp hv (by omega) hnice (le_left tpos hleft hatt)⟩

end
end Rn
namespace Rn
open PySem PySem.Spec PyProof.Rows L2
section
variable {P : Program} {w : World} {K : PySem.W.Frag} {mg : Str → Option Value} {base : Heap}
def sp_law_total (K : PySem.W.Frag) : Sp := fun vs H Q _ => ∃ (a : Addr) (Ls : List Lay), vs = [.ref a] ∧ NestAt H a Ls ∧ (∀ L ∈ Ls, L.ok = true ∧ L.cnt < 2 ^ 100) ∧ Ls.length ≤ 5000 ∧ Q (.int (attOf Ls)) H
theorem ok_law_total (T : Txt P K mg) : FnOk P w K mg base CX0 1 T.f_law_total T.d_law_total ["layers"] (sp_law_total K) := by
  refine T.F_law_total.ok sc_law_total (fun vs H Q E h => ?_) (fun cdv A outer s H vs Q E hr h => ?_)
  · obtain ⟨a, Ls, rfl, _⟩ := h
    rfl
  obtain ⟨a, Ls, rfl, hN, hok, hz, q⟩ := h
  refine ⟨_, (pss_cons (ps_set (i := 1) sc_law_total.nd rfl (Or.inl rfl) pe_int)
      (pss_cons (ps_for PassesOwn.never rfl (pi_list (pv 0)) (pg_name (i := 2) sc_law_total.nd rfl (Or.inl rfl))
      (pss_one (ps_set (i := 1) sc_law_total.nd rfl (Or.inl rfl) (pe_op op_mulW (pv 1) (pe_ifExp (pt_val (pe_callB call_isi (by rfl) T.m_isinstance (by decide +kernel) (pa_cons (pv 2) (pa_cons (pe_bltn (v := .ty "tuple") (by rfl) T.m_tuple (by decide +kernel) rfl) pa_nil)))) (pe_ix ix_tup (pv 2) pe_int (fun _ _ => rfl)) (pe_op op_add (pe_callB call_len_seq (by rfl) T.m_len PySem.boot_len (pa_cons (pv 2) pa_nil)) pe_int))))))
      (pss_one (ps_ret (pv 1))))), ?_⟩
  obtain ⟨vs, hv, hl, hat⟩ := id hN
  refine ⟨_, rfl, a, rfl, ⟨vs, sql hv⟩, for_list (xs := vs) (fun i σ H' => (∃ y2, σ = [some (.ref a), some (.int (attOf (Ls.take i))), y2]) ∧ H' = H) ⟨⟨none, rfl⟩, rfl⟩ (fun i σ H' _ h => by rw [h.2]; exact sql hv) (fun i x σ H' hx h => ?_) (fun σ H' h => ?_)⟩
  · obtain ⟨⟨y2, rfl⟩, rfl⟩ := h
    have hi : i < Ls.length := by
      rw [← hl]
      exact (List.getElem?_eq_some_iff.mp hx).1
    have hi' := List.getElem?_eq_getElem hi
    obtain ⟨i1, i2⟩ := attOf_lt i (Ls.take i) (by rw [List.length_take]; omega) fun L hL => hok L (List.mem_of_mem_take hL)
    obtain ⟨h1, h2⟩ := hok _ (List.getElem_mem hi)
    have h3 := LayAt.con_pos h1
    have hLx := hat i x _ hx hi'
    generalize Ls[i] = L at *
    have et : attOf (Ls.take (i + 1)) = attOf (Ls.take i) * L.cnt := by rw [List.take_add_one, hi', Option.toList_some, attOf_snoc]
    have wm : CMulW (attOf (Ls.take i)) L.cnt := wide_mul (b := 100) i2 (by omega) (by omega) (by decide) (by omega)
    cases L with
    | con wt n =>
      obtain ⟨p, rfl, hp⟩ := hLx
      refine ⟨_, rfl, _, rfl, _, _, _, _, true, rfl, .ty "tuple", .base (.tup hp), kit_ty (by decide +kernel), true, rfl, iteT ?_⟩
      refine ⟨_, rfl, p, _, 1, _, rfl, rfl, sqt hp, rfl, _, _, rfl, rfl, wm, ⟨some (.ref p), ?_⟩, rfl⟩
      rw [et]
      rfl
    | pol ns =>
      obtain ⟨p, rfl, hp⟩ := hLx
      refine ⟨_, rfl, _, rfl, _, _, _, _, false, rfl, .ty "tuple", .base (.lst hp), kit_ty (by decide +kernel), false, rfl, iteF ?_⟩
      refine ⟨_, rfl, p, _, rfl, .inl (sql hp), _, _, rfl, rfl, _, _, rfl, rfl, by rw [List.length_map]; exact wm, ⟨some (.ref p), ?_⟩, rfl⟩
      rw [et, List.length_map]
      rfl
  · obtain ⟨⟨y2, rfl⟩, rfl⟩ := h
    refine ⟨_, rfl, ?_⟩
    rw [hl, List.take_length]
    exact q

end
end Rn
namespace Rn
open PySem PySem.Spec PyProof.Rows L2
section
variable {P : Program} {w : World} {K : PySem.W.Frag} {mg : Str → Option Value} {base : Heap}
/-- the six classes by name -/
def OwnIs (T : Txt P K mg) (D : Addr) (nm : Str) : Prop := (D = T.C_InvalidWait ∧ nm = "InvalidWait") ∨ (D = T.C_InvalidLayer ∧ nm = "InvalidLayer") ∨ (D = T.C_InvalidNumber ∧ nm = "InvalidNumber") ∨ (D = T.C_Unreadable ∧ nm = "Unreadable") ∨
  (D = T.C_TooManyAttempts ∧ nm = "TooManyAttempts") ∨ (D = T.C_NoMoreAttempts ∧ nm = "NoMoreAttempts")
abbrev six (b1 b2 b3 b4 b5 b6 : Bool) : List (Str × Bool) := [("InvalidWait", b1), ("InvalidLayer", b2), ("InvalidNumber", b3), ("Unreadable", b4), ("TooManyAttempts", b5), ("NoMoreAttempts", b6)]
def nmsOf (ps : List (Str × Bool)) : List V := (ps.filter (·.2)).map fun p => V.str p.1
theorem nmsOf_next {ps : List (Str × Bool)} {i : Nat} {pr : Str × Bool} (h : ps[i]? = some pr) : nmsOf (ps.take (i + 1)) = nmsOf (ps.take i) ++ (if pr.2 = true then [V.str pr.1] else []) := by
  unfold nmsOf
  rw [List.take_add_one, h, Option.toList_some, List.filter_append, List.map_append]
  obtain ⟨x, b⟩ := pr
  cases b <;> rfl
theorem nmsOf_few (b1 b2 b3 b4 b5 b6 : Bool) (i : Nat) : (nmsOf ((six b1 b2 b3 b4 b5 b6).take i)).length < 100000 := by
  unfold nmsOf
  rw [List.length_map]
  have h1 := List.length_filter_le (fun p : Str × Bool => p.2) ((six b1 b2 b3 b4 b5 b6).take i)
  rw [List.length_take] at h1
  have h3 : (six b1 b2 b3 b4 b5 b6).length = 6 := rfl
  rw [h3] at h1
  omega
theorem tup_over {H : Hp} {t l : Addr} {xs ys : List V} {o : HO} (h : H t = some (.tup xs)) (h2 : H l = some (.lst ys)) : upd H l o t = some (.tup xs) := by
  rw [upd_ne fun z => by rw [z, h2] at h; cases h]
  exact h
theorem own_bits (T : Txt P K mg) {D : Addr} {nm : Str} (h : OwnIs T D nm) : ∃ b1 b2 b3 b4 b5 b6 : Bool, PySem.W.kitOne K (.ref D) (.ref T.C_InvalidWait) = some b1 ∧ PySem.W.kitOne K (.ref D) (.ref T.C_InvalidLayer) = some b2 ∧ PySem.W.kitOne K (.ref D) (.ref T.C_InvalidNumber) = some b3 ∧
    PySem.W.kitOne K (.ref D) (.ref T.C_Unreadable) = some b4 ∧ PySem.W.kitOne K (.ref D) (.ref T.C_TooManyAttempts) = some b5 ∧ PySem.W.kitOne K (.ref D) (.ref T.C_NoMoreAttempts) = some b6 ∧ PySem.W.kitOne K (.ref D) (.ref T.C_RetryError) = some true ∧
    PySem.W.kitOne K (.ref D) (.type "ValueError") = some true ∧ nmsOf (six b1 b2 b3 b4 b5 b6) = [V.str nm] ∧ ∃ (xn : Str) (fI : Addr), PySem.VeX.VeTxt P K mg xn D fI := by
  rcases h with ⟨rfl, rfl⟩ | ⟨rfl, rfl⟩ | ⟨rfl, rfl⟩ | ⟨rfl, rfl⟩ | ⟨rfl, rfl⟩ | ⟨rfl, rfl⟩
  · exact ⟨true, false, false, false, false, false, kit_self, T.is_InvalidWait_InvalidLayer, T.is_InvalidWait_InvalidNumber, T.is_InvalidWait_Unreadable, T.is_InvalidWait_TooManyAttempts, T.is_InvalidWait_NoMoreAttempts, T.is_InvalidWait_RetryError, kit_ve T.V_InvalidWait.veC, rfl, _, _, T.V_InvalidWait⟩
  · exact ⟨false, true, false, false, false, false, T.is_InvalidLayer_InvalidWait, kit_self, T.is_InvalidLayer_InvalidNumber, T.is_InvalidLayer_Unreadable, T.is_InvalidLayer_TooManyAttempts, T.is_InvalidLayer_NoMoreAttempts, T.is_InvalidLayer_RetryError, kit_ve T.V_InvalidLayer.veC, rfl, _, _, T.V_InvalidLayer⟩
  · exact ⟨false, false, true, false, false, false, T.is_InvalidNumber_InvalidWait, T.is_InvalidNumber_InvalidLayer, kit_self, T.is_InvalidNumber_Unreadable, T.is_InvalidNumber_TooManyAttempts, T.is_InvalidNumber_NoMoreAttempts, T.is_InvalidNumber_RetryError, kit_ve T.V_InvalidNumber.veC, rfl, _, _, T.V_InvalidNumber⟩
  · exact ⟨false, false, false, true, false, false, T.is_Unreadable_InvalidWait, T.is_Unreadable_InvalidLayer, T.is_Unreadable_InvalidNumber, kit_self, T.is_Unreadable_TooManyAttempts, T.is_Unreadable_NoMoreAttempts, T.is_Unreadable_RetryError, kit_ve T.V_Unreadable.veC, rfl, _, _, T.V_Unreadable⟩
  · exact ⟨false, false, false, false, true, false, T.is_TooManyAttempts_InvalidWait, T.is_TooManyAttempts_InvalidLayer, T.is_TooManyAttempts_InvalidNumber, T.is_TooManyAttempts_Unreadable, kit_self, T.is_TooManyAttempts_NoMoreAttempts, T.is_TooManyAttempts_RetryError, kit_ve T.V_TooManyAttempts.veC, rfl, _, _, T.V_TooManyAttempts⟩
  · exact ⟨false, false, false, false, false, true, T.is_NoMoreAttempts_InvalidWait, T.is_NoMoreAttempts_InvalidLayer, T.is_NoMoreAttempts_InvalidNumber, T.is_NoMoreAttempts_Unreadable, T.is_NoMoreAttempts_TooManyAttempts, kit_self, T.is_NoMoreAttempts_RetryError, kit_ve T.V_NoMoreAttempts.veC, rfl, _, _, T.V_NoMoreAttempts⟩
def sp_law_error (T : Txt P K mg) : Sp := fun vs H Q _ => ∃ (a D : Addr) (v : V) (nm : Str), vs = [.ref a] ∧ IsErrT K D a v H ∧ OwnIs T D nm ∧ ∀ H' r, Same H H' → H' r = some (.lst [.str nm, v, .bl true]) → Q (.ref r) H'
theorem ok_law_error (T : Txt P K mg) : FnOk P w K mg base CX0 2 T.f_law_error T.d_law_error ["e"] (sp_law_error T) := by
  refine T.F_law_error.ok sc_law_error (fun vs H Q E h => ?_) (fun cdv A outer s H vs Q E hr h => ?_)
  · obtain ⟨a, D, v, nm, rfl, _⟩ := h
    rfl
  obtain ⟨a, D, v, nm, rfl, hE, hD, q⟩ := h
  obtain ⟨b1, b2, b3, b4, b5, b6, k1, k2, k3, k4, k5, k6, kR, kV, hnm, xn, fI, hV⟩ := own_bits T hD
  refine ⟨_, (pss_cons (ps_set (i := 1) sc_law_error.nd rfl (Or.inl rfl) (pe_lst (pa_cons (pe_tup (pa_cons pe_str (pa_cons (pe_callB call_isT (by rfl) T.m_isinstance (by decide +kernel) (pa_cons (pv 0) (pa_cons (pe_glob (v := .ref T.C_InvalidWait) rfl T.q_InvalidWait rfl) pa_nil))) pa_nil))) (pa_cons (pe_tup (pa_cons pe_str (pa_cons (pe_callB call_isT (by rfl) T.m_isinstance (by decide +kernel) (pa_cons (pv 0) (pa_cons (pe_glob (v := .ref T.C_InvalidLayer) rfl T.q_InvalidLayer rfl) pa_nil))) pa_nil))) pa_nil))))
      (pss_cons (ps_set (i := 1) sc_law_error.nd rfl (Or.inl rfl) (pe_op op_cat (pv 1) (pe_lst (pa_cons (pe_tup (pa_cons pe_str (pa_cons (pe_callB call_isT (by rfl) T.m_isinstance (by decide +kernel) (pa_cons (pv 0) (pa_cons (pe_glob (v := .ref T.C_InvalidNumber) rfl T.q_InvalidNumber rfl) pa_nil))) pa_nil))) (pa_cons (pe_tup (pa_cons pe_str (pa_cons (pe_callB call_isT (by rfl) T.m_isinstance (by decide +kernel) (pa_cons (pv 0) (pa_cons (pe_glob (v := .ref T.C_Unreadable) rfl T.q_Unreadable rfl) pa_nil))) pa_nil))) pa_nil)))))
      (pss_cons (ps_set (i := 1) sc_law_error.nd rfl (Or.inl rfl) (pe_op op_cat (pv 1) (pe_lst (pa_cons (pe_tup (pa_cons pe_str (pa_cons (pe_callB call_isT (by rfl) T.m_isinstance (by decide +kernel) (pa_cons (pv 0) (pa_cons (pe_glob (v := .ref T.C_TooManyAttempts) rfl T.q_TooManyAttempts rfl) pa_nil))) pa_nil))) pa_nil))))
      (pss_cons (ps_expr (pe_bm PySem.F.plainAttrs_list PySem.F.slot_list_append PySem.F.type_list_append mt_append (pv 1) (pa_cons (pe_tup (pa_cons pe_str (pa_cons (pe_callB call_isT (by rfl) T.m_isinstance (by decide +kernel) (pa_cons (pv 0) (pa_cons (pe_glob (v := .ref T.C_NoMoreAttempts) rfl T.q_NoMoreAttempts rfl) pa_nil))) pa_nil))) pa_nil)))
      (pss_cons (ps_setLc (i := 2) (own := [("name", 3), ("is_one", 4)]) (g := gTup K 2 (gCons (gName 3) (gCons (gName 4) gNil)))  rfl sc_law_error.nd rfl rfl (sw_true rfl rfl rfl (by decide +kernel)) (pi_list (pv 1)) (blkOk_by (N := ["e", "held", "names", "name", "is_one"]) (sc := defScope s_law_error) (by decide +kernel)) (fun _ _ _ _ _ => (pg_tupK (K := K) rfl rfl (pgs_cons (pg_name (i := 3) sc_law_error.nd rfl (Or.inl rfl)) (pgs_cons (pg_name (i := 4) sc_law_error.nd rfl (Or.inl rfl)) pgs_nil)))) (fun _ _ _ _ _ => (pts_one (pt_val (pv 4)))) (fun _ _ _ _ _ => (pv 3)))
      (pss_one (ps_ret (pe_op op_cat (pv 2) (pe_lst (pa_cons (pe_valOfT (pv 0)) (pa_cons (pe_and (pe_callB call_isT (by rfl) T.m_isinstance (by decide +kernel) (pa_cons (pv 0) (pa_cons (pe_glob (v := .ref T.C_RetryError) rfl T.g_RetryError rfl) pa_nil))) (pe_one (pe_callB call_isT (by rfl) T.m_isinstance (by decide +kernel) (pa_cons (pv 0) (pa_cons (pe_bltn (v := .ty "ValueError") (by rfl) T.m_ValueError (by decide +kernel) rfl) pa_nil))))) pa_nil))))))))))), ?_⟩
  refine ⟨_, rfl, a, D, v, _, _, b1, rfl, hE, .own _, k1, size_le (by show 2 ≤ 100000; decide), fun t1 n1 => ?_⟩
  have S_H1 := same_new (o := .tup [.str "InvalidWait", .bl b1]) n1
  have e_t1 := upd_same (H := H) (a := t1) (o := .tup [.str "InvalidWait", .bl b1])
  generalize upd H t1 (.tup [.str "InvalidWait", .bl b1]) = H1 at *
  have U_H1 := (Same.refl H).trans S_H1
  refine ⟨_, rfl, a, D, v, _, _, b2, rfl, hE.same U_H1, .own _, k2, size_le (by show 2 ≤ 100000; decide), fun t2 n2 => ?_⟩
  have S_H2 := same_new (o := .tup [.str "InvalidLayer", .bl b2]) n2
  have e_t2 := upd_same (H := H1) (a := t2) (o := .tup [.str "InvalidLayer", .bl b2])
  generalize upd H1 t2 (.tup [.str "InvalidLayer", .bl b2]) = H2 at *
  have e_t1 := S_H2 _ _ e_t1
  have U_H2 := U_H1.trans S_H2
  refine ⟨size_le (by show 2 ≤ 100000; decide), fun l1 m1 => ?_⟩
  have S_H3 := same_new (o := .lst [.ref t1, .ref t2]) m1
  have e_l1 := upd_same (H := H2) (a := l1) (o := .lst [.ref t1, .ref t2])
  generalize upd H2 l1 (.lst [.ref t1, .ref t2]) = H3 at *
  have e_t1 := S_H3 _ _ e_t1
  have e_t2 := S_H3 _ _ e_t2
  have U_H3 := U_H2.trans S_H3
  refine ⟨_, rfl, _, rfl, a, D, v, _, _, b3, rfl, hE.same U_H3, .own _, k3, size_le (by show 2 ≤ 100000; decide), fun t3 n3 => ?_⟩
  have S_H4 := same_new (o := .tup [.str "InvalidNumber", .bl b3]) n3
  have e_t3 := upd_same (H := H3) (a := t3) (o := .tup [.str "InvalidNumber", .bl b3])
  generalize upd H3 t3 (.tup [.str "InvalidNumber", .bl b3]) = H4 at *
  have e_t1 := S_H4 _ _ e_t1
  have e_t2 := S_H4 _ _ e_t2
  have e_l1 := S_H4 _ _ e_l1
  have U_H4 := U_H3.trans S_H4
  refine ⟨_, rfl, a, D, v, _, _, b4, rfl, hE.same U_H4, .own _, k4, size_le (by show 2 ≤ 100000; decide), fun t4 n4 => ?_⟩
  have S_H5 := same_new (o := .tup [.str "Unreadable", .bl b4]) n4
  have e_t4 := upd_same (H := H4) (a := t4) (o := .tup [.str "Unreadable", .bl b4])
  generalize upd H4 t4 (.tup [.str "Unreadable", .bl b4]) = H5 at *
  have e_t1 := S_H5 _ _ e_t1
  have e_t2 := S_H5 _ _ e_t2
  have e_l1 := S_H5 _ _ e_l1
  have e_t3 := S_H5 _ _ e_t3
  have U_H5 := U_H4.trans S_H5
  refine ⟨size_le (by show 2 ≤ 100000; decide), fun l2 m2 => ?_⟩
  have S_H6 := same_new (o := .lst [.ref t3, .ref t4]) m2
  have e_l2 := upd_same (H := H5) (a := l2) (o := .lst [.ref t3, .ref t4])
  generalize upd H5 l2 (.lst [.ref t3, .ref t4]) = H6 at *
  have e_t1 := S_H6 _ _ e_t1
  have e_t2 := S_H6 _ _ e_t2
  have e_l1 := S_H6 _ _ e_l1
  have e_t3 := S_H6 _ _ e_t3
  have e_t4 := S_H6 _ _ e_t4
  have U_H6 := U_H5.trans S_H6
  refine ⟨l1, l2, _, _, rfl, rfl, e_l1, e_l2, size_le (by show 4 ≤ 100000; decide), fun l3 m3 => ?_⟩
  have S_H7 := same_new (o := .lst ([.ref t1, .ref t2] ++ [.ref t3, .ref t4])) m3
  have e_l3 := upd_same (H := H6) (a := l3) (o := .lst ([.ref t1, .ref t2] ++ [.ref t3, .ref t4]))
  generalize upd H6 l3 (.lst ([.ref t1, .ref t2] ++ [.ref t3, .ref t4])) = H7 at *
  have e_t1 := S_H7 _ _ e_t1
  have e_t2 := S_H7 _ _ e_t2
  have e_l1 := S_H7 _ _ e_l1
  have e_t3 := S_H7 _ _ e_t3
  have e_t4 := S_H7 _ _ e_t4
  have e_l2 := S_H7 _ _ e_l2
  have U_H7 := U_H6.trans S_H7
  refine ⟨_, rfl, _, rfl, a, D, v, _, _, b5, rfl, hE.same U_H7, .own _, k5, size_le (by show 2 ≤ 100000; decide), fun t5 n5 => ?_⟩
  have S_H8 := same_new (o := .tup [.str "TooManyAttempts", .bl b5]) n5
  have e_t5 := upd_same (H := H7) (a := t5) (o := .tup [.str "TooManyAttempts", .bl b5])
  generalize upd H7 t5 (.tup [.str "TooManyAttempts", .bl b5]) = H8 at *
  have e_t1 := S_H8 _ _ e_t1
  have e_t2 := S_H8 _ _ e_t2
  have e_l1 := S_H8 _ _ e_l1
  have e_t3 := S_H8 _ _ e_t3
  have e_t4 := S_H8 _ _ e_t4
  have e_l2 := S_H8 _ _ e_l2
  have e_l3 := S_H8 _ _ e_l3
  have U_H8 := U_H7.trans S_H8
  refine ⟨size_le (by show 1 ≤ 100000; decide), fun l4 m4 => ?_⟩
  have S_H9 := same_new (o := .lst [.ref t5]) m4
  have e_l4 := upd_same (H := H8) (a := l4) (o := .lst [.ref t5])
  generalize upd H8 l4 (.lst [.ref t5]) = H9 at *
  have e_t1 := S_H9 _ _ e_t1
  have e_t2 := S_H9 _ _ e_t2
  have e_l1 := S_H9 _ _ e_l1
  have e_t3 := S_H9 _ _ e_t3
  have e_t4 := S_H9 _ _ e_t4
  have e_l2 := S_H9 _ _ e_l2
  have e_l3 := S_H9 _ _ e_l3
  have e_t5 := S_H9 _ _ e_t5
  have U_H9 := U_H8.trans S_H9
  refine ⟨l3, l4, _, _, rfl, rfl, e_l3, e_l4, size_le (by show 5 ≤ 100000; decide), fun l5 m5 => ?_⟩
  have fresh5 : H l5 = none := U_H9.free m5
  have S_H10 := same_new (o := .lst (([.ref t1, .ref t2] ++ [.ref t3, .ref t4]) ++ [.ref t5])) m5
  have e_l5 := upd_same (H := H9) (a := l5) (o := .lst (([.ref t1, .ref t2] ++ [.ref t3, .ref t4]) ++ [.ref t5]))
  generalize upd H9 l5 (.lst (([.ref t1, .ref t2] ++ [.ref t3, .ref t4]) ++ [.ref t5])) = H10 at *
  have e_t1 := S_H10 _ _ e_t1
  have e_t2 := S_H10 _ _ e_t2
  have e_l1 := S_H10 _ _ e_l1
  have e_t3 := S_H10 _ _ e_t3
  have e_t4 := S_H10 _ _ e_t4
  have e_l2 := S_H10 _ _ e_l2
  have e_l3 := S_H10 _ _ e_l3
  have e_t5 := S_H10 _ _ e_t5
  have e_l4 := S_H10 _ _ e_l4
  have U_H10 := U_H9.trans S_H10
  refine ⟨_, rfl, .inl ⟨rfl, _, sql e_l5⟩, _, rfl, a, D, v, _, _, b6, rfl, hE.same U_H10, .own _, k6, size_le (by show 2 ≤ 100000; decide), fun t6 n6 => ?_⟩
  have S_H11 := same_new (o := .tup [.str "NoMoreAttempts", .bl b6]) n6
  have e_t6 := upd_same (H := H10) (a := t6) (o := .tup [.str "NoMoreAttempts", .bl b6])
  generalize upd H10 t6 (.tup [.str "NoMoreAttempts", .bl b6]) = H11 at *
  have e_t1 := S_H11 _ _ e_t1
  have e_t2 := S_H11 _ _ e_t2
  have e_l1 := S_H11 _ _ e_l1
  have e_t3 := S_H11 _ _ e_t3
  have e_t4 := S_H11 _ _ e_t4
  have e_l2 := S_H11 _ _ e_l2
  have e_l3 := S_H11 _ _ e_l3
  have e_t5 := S_H11 _ _ e_t5
  have e_l4 := S_H11 _ _ e_l4
  have e_l5 := S_H11 _ _ e_l5
  have U_H11 := U_H10.trans S_H11
  refine ⟨l5, _, .ref t6, rfl, rfl, e_l5, size_lt (by show 5 < 100000; decide), ?_⟩
  have R_t1 := tup_over (o := .lst ((([.ref t1, .ref t2] ++ [.ref t3, .ref t4]) ++ [.ref t5]) ++ [.ref t6])) e_t1 e_l5
  have R_t2 := tup_over (o := .lst ((([.ref t1, .ref t2] ++ [.ref t3, .ref t4]) ++ [.ref t5]) ++ [.ref t6])) e_t2 e_l5
  have R_t3 := tup_over (o := .lst ((([.ref t1, .ref t2] ++ [.ref t3, .ref t4]) ++ [.ref t5]) ++ [.ref t6])) e_t3 e_l5
  have R_t4 := tup_over (o := .lst ((([.ref t1, .ref t2] ++ [.ref t3, .ref t4]) ++ [.ref t5]) ++ [.ref t6])) e_t4 e_l5
  have R_t5 := tup_over (o := .lst ((([.ref t1, .ref t2] ++ [.ref t3, .ref t4]) ++ [.ref t5]) ++ [.ref t6])) e_t5 e_l5
  have R_t6 := tup_over (o := .lst ((([.ref t1, .ref t2] ++ [.ref t3, .ref t4]) ++ [.ref t5]) ++ [.ref t6])) e_t6 e_l5
  have R_l := upd_same (H := H11) (a := l5) (o := .lst ((([.ref t1, .ref t2] ++ [.ref t3, .ref t4]) ++ [.ref t5]) ++ [.ref t6]))
  have U := same_keep (o := .lst ((([.ref t1, .ref t2] ++ [.ref t3, .ref t4]) ++ [.ref t5]) ++ [.ref t6])) U_H11 fresh5
  generalize upd H11 l5 (.lst ((([.ref t1, .ref t2] ++ [.ref t3, .ref t4]) ++ [.ref t5]) ++ [.ref t6])) = H12 at *
  have at6 : ∀ (i : Nat) (x : V), ([.ref t1, .ref t2, .ref t3, .ref t4, .ref t5, .ref t6] : List V)[i]? = some x → ∃ (t : Addr) (pr : Str × Bool), x = .ref t ∧ (six b1 b2 b3 b4 b5 b6)[i]? = some pr ∧ H12 t = some (.tup [.str pr.1, .bl pr.2]) := fun i x hx => by
    rcases i with _ | _ | _ | _ | _ | _ | i
    · cases hx; exact ⟨t1, _, rfl, rfl, R_t1⟩
    · cases hx; exact ⟨t2, _, rfl, rfl, R_t2⟩
    · cases hx; exact ⟨t3, _, rfl, rfl, R_t3⟩
    · cases hx; exact ⟨t4, _, rfl, rfl, R_t4⟩
    · cases hx; exact ⟨t5, _, rfl, rfl, R_t5⟩
    · cases hx; exact ⟨t6, _, rfl, rfl, R_t6⟩
    · cases hx
  refine ⟨_, rfl, l5, rfl, ⟨_, sql R_l⟩, fun r0 f0 => lc_list (xs := [.ref t1, .ref t2, .ref t3, .ref t4, .ref t5, .ref t6]) (fun i H' => Same H12 H' ∧ H' r0 = some (.lst (nmsOf ((six b1 b2 b3 b4 b5 b6).take i)))) ⟨same_new f0, upd_same⟩ (fun i H' _ h => sql (h.1 _ _ R_l)) (fun i x H' hx h => ?_) (fun H' h => ?_)⟩
  · obtain ⟨sm, hr⟩ := h
    obtain ⟨t, pr, rfl, hpr, ht⟩ := at6 i x hx
    have hn := nmsOf_next hpr
    have few : (nmsOf ((six b1 b2 b3 b4 b5 b6).take i)).length < 100000 := nmsOf_few _ _ _ _ _ _ _
    refine ⟨t, _, rfl, sqt (sm _ _ ht), rfl, _, _, rfl, _, _, rfl, rfl, rfl, ?_⟩
    refine ⟨_, rfl, pr.2, rfl, ?_⟩
    obtain ⟨nx, b⟩ := pr
    cases b with
    | true =>
      refine iteT ⟨_, rfl, _, hr, size_lt few, same_keep sm f0, ?_⟩
      rw [upd_same, hn]
      rfl
    | false =>
      refine iteF ⟨sm, ?_⟩
      rw [hr, hn]
      exact congrArg (fun l => some (HO.lst l)) (List.append_nil _).symm
  · obtain ⟨sm, hr⟩ := h
    have hr' : H' r0 = some (.lst [.str nm]) := by
      rw [← hnm]
      exact hr
    have Ua := U.trans sm
    refine ⟨_, rfl, _, rfl, a, xn, D, fI, v, rfl, hV, hE.same Ua, _, rfl, a, D, v, _, _, true, rfl, hE.same Ua, .own _, kR, true, rfl, ?_⟩
    refine iteT ⟨_, rfl, a, D, v, _, _, true, rfl, hE.same Ua, .ty "ValueError", kV, size_le (by show 2 ≤ 100000; decide), fun l6 f6 => ?_⟩
    have s6 := same_new (o := .lst [v, .bl true]) f6
    refine ⟨r0, l6, _, _, rfl, rfl, s6 _ _ hr', upd_same, size_le (by show 3 ≤ 100000; decide), fun l7 f7 => ?_⟩
    have s7 := same_new (o := .lst ([.str nm] ++ [v, .bl true])) f7
    exact q _ _ ((Ua.trans s6).trans s7) upd_same

/-- .. where it is the exception that is handled -/
def sp_law_errorE (T : Txt P K mg) : SpE := fun a0 c d vs H Q _ => ∃ (a D : Addr) (v : V) (nm : Str), vs = [.ref a] ∧ IsErrP K a0 c d D a v H ∧ OwnIs T D nm ∧ ∀ H' r, Same H H' → H' r = some (.lst [.str nm, v, .bl true]) → Q (.ref r) H'
theorem ok_law_errorE (T : Txt P K mg) : FnE P w K mg base 2 T.f_law_error T.d_law_error ["e"] (sp_law_errorE T) := by
  refine okE T.F_law_error sc_law_error (fun a0 c0 d0 vs H Q E h => ?_) (fun cdv A outer s H vs Q E p c0 d0 hot hz hr h => ?_)
  · obtain ⟨a, D, v, nm, rfl, _⟩ := h
    rfl
  have hp : (p.1, p.2) ∈ [p] := .head _
  have hf : ∃ vs, p.2.data = .fields vs := ⟨hot.2.choose, hot.2.choose_spec.1⟩
  have hc : L2H.HotC (L2H.cxH CX0 P w K mg base ["e", "held", "names", "name", "is_one"] "_law_error" (defScope s_law_error) T.f_law_error cdv A outer s H E p) := ⟨p, hot, hp⟩
  obtain ⟨a, D, v, nm, rfl, hE, hD, q⟩ := h
  obtain ⟨b1, b2, b3, b4, b5, b6, k1, k2, k3, k4, k5, k6, kR, kV, hnm, xn, fI, hV⟩ := own_bits T hD
  refine ⟨_, (pss_cons (ps_set (i := 1) sc_law_error.nd rfl (Or.inl rfl) (pe_lst (pa_cons (pe_tup (pa_cons pe_str (pa_cons (pe_callB (call_isP hp hz hf) (by rfl) T.m_isinstance (by decide +kernel) (pa_cons (pv 0) (pa_cons (pe_glob (v := .ref T.C_InvalidWait) rfl T.q_InvalidWait rfl) pa_nil))) pa_nil))) (pa_cons (pe_tup (pa_cons pe_str (pa_cons (pe_callB (call_isP hp hz hf) (by rfl) T.m_isinstance (by decide +kernel) (pa_cons (pv 0) (pa_cons (pe_glob (v := .ref T.C_InvalidLayer) rfl T.q_InvalidLayer rfl) pa_nil))) pa_nil))) pa_nil))))
      (pss_cons (ps_set (i := 1) sc_law_error.nd rfl (Or.inl rfl) (pe_op op_cat (pv 1) (pe_lst (pa_cons (pe_tup (pa_cons pe_str (pa_cons (pe_callB (call_isP hp hz hf) (by rfl) T.m_isinstance (by decide +kernel) (pa_cons (pv 0) (pa_cons (pe_glob (v := .ref T.C_InvalidNumber) rfl T.q_InvalidNumber rfl) pa_nil))) pa_nil))) (pa_cons (pe_tup (pa_cons pe_str (pa_cons (pe_callB (call_isP hp hz hf) (by rfl) T.m_isinstance (by decide +kernel) (pa_cons (pv 0) (pa_cons (pe_glob (v := .ref T.C_Unreadable) rfl T.q_Unreadable rfl) pa_nil))) pa_nil))) pa_nil)))))
      (pss_cons (ps_set (i := 1) sc_law_error.nd rfl (Or.inl rfl) (pe_op op_cat (pv 1) (pe_lst (pa_cons (pe_tup (pa_cons pe_str (pa_cons (pe_callB (call_isP hp hz hf) (by rfl) T.m_isinstance (by decide +kernel) (pa_cons (pv 0) (pa_cons (pe_glob (v := .ref T.C_TooManyAttempts) rfl T.q_TooManyAttempts rfl) pa_nil))) pa_nil))) pa_nil))))
      (pss_cons (ps_expr (pe_bm PySem.F.plainAttrs_list PySem.F.slot_list_append PySem.F.type_list_append mt_append (pv 1) (pa_cons (pe_tup (pa_cons pe_str (pa_cons (pe_callB (call_isP hp hz hf) (by rfl) T.m_isinstance (by decide +kernel) (pa_cons (pv 0) (pa_cons (pe_glob (v := .ref T.C_NoMoreAttempts) rfl T.q_NoMoreAttempts rfl) pa_nil))) pa_nil))) pa_nil)))
      (pss_cons (ps_setLcH (i := 2) (own := [("name", 3), ("is_one", 4)]) (g := gTup K 2 (gCons (gName 3) (gCons (gName 4) gNil))) hc sc_law_error.nd rfl rfl (sw_true rfl rfl rfl (by decide +kernel)) (pv 1) (blkOk_by (N := ["e", "held", "names", "name", "is_one"]) (sc := defScope s_law_error) (by decide +kernel)) (fun _ _ _ _ _ hb => (pg_tupH (K := K) rfl hb (pgs_cons (pg_name (i := 3) sc_law_error.nd rfl (Or.inl rfl)) (pgs_cons (pg_name (i := 4) sc_law_error.nd rfl (Or.inl rfl)) pgs_nil)))) (fun _ _ _ _ _ => (pts_one (pt_val (pv 4)))) (fun _ _ _ _ _ => (pv 3)))
      (pss_one (ps_ret (pe_op op_cat (pv 2) (pe_lst (pa_cons (pe_valP hp hz hf (pv 0)) (pa_cons (pe_and (pe_callB (call_isP hp hz hf) (by rfl) T.m_isinstance (by decide +kernel) (pa_cons (pv 0) (pa_cons (pe_glob (v := .ref T.C_RetryError) rfl T.g_RetryError rfl) pa_nil))) (pe_one (pe_callB (call_isP hp hz hf) (by rfl) T.m_isinstance (by decide +kernel) (pa_cons (pv 0) (pa_cons (pe_bltn (v := .ty "ValueError") (by rfl) T.m_ValueError (by decide +kernel) rfl) pa_nil))))) pa_nil))))))))))), ?_⟩
  refine ⟨_, rfl, a, D, v, _, _, b1, rfl, hE, .own _, k1, size_le (by show 2 ≤ 100000; decide), fun t1 n1 => ?_⟩
  have S_H1 := same_new (o := .tup [.str "InvalidWait", .bl b1]) n1
  have e_t1 := upd_same (H := H) (a := t1) (o := .tup [.str "InvalidWait", .bl b1])
  generalize upd H t1 (.tup [.str "InvalidWait", .bl b1]) = H1 at *
  have U_H1 := (Same.refl H).trans S_H1
  refine ⟨_, rfl, a, D, v, _, _, b2, rfl, hE.same U_H1, .own _, k2, size_le (by show 2 ≤ 100000; decide), fun t2 n2 => ?_⟩
  have S_H2 := same_new (o := .tup [.str "InvalidLayer", .bl b2]) n2
  have e_t2 := upd_same (H := H1) (a := t2) (o := .tup [.str "InvalidLayer", .bl b2])
  generalize upd H1 t2 (.tup [.str "InvalidLayer", .bl b2]) = H2 at *
  have e_t1 := S_H2 _ _ e_t1
  have U_H2 := U_H1.trans S_H2
  refine ⟨size_le (by show 2 ≤ 100000; decide), fun l1 m1 => ?_⟩
  have S_H3 := same_new (o := .lst [.ref t1, .ref t2]) m1
  have e_l1 := upd_same (H := H2) (a := l1) (o := .lst [.ref t1, .ref t2])
  generalize upd H2 l1 (.lst [.ref t1, .ref t2]) = H3 at *
  have e_t1 := S_H3 _ _ e_t1
  have e_t2 := S_H3 _ _ e_t2
  have U_H3 := U_H2.trans S_H3
  refine ⟨_, rfl, _, rfl, a, D, v, _, _, b3, rfl, hE.same U_H3, .own _, k3, size_le (by show 2 ≤ 100000; decide), fun t3 n3 => ?_⟩
  have S_H4 := same_new (o := .tup [.str "InvalidNumber", .bl b3]) n3
  have e_t3 := upd_same (H := H3) (a := t3) (o := .tup [.str "InvalidNumber", .bl b3])
  generalize upd H3 t3 (.tup [.str "InvalidNumber", .bl b3]) = H4 at *
  have e_t1 := S_H4 _ _ e_t1
  have e_t2 := S_H4 _ _ e_t2
  have e_l1 := S_H4 _ _ e_l1
  have U_H4 := U_H3.trans S_H4
  refine ⟨_, rfl, a, D, v, _, _, b4, rfl, hE.same U_H4, .own _, k4, size_le (by show 2 ≤ 100000; decide), fun t4 n4 => ?_⟩
  have S_H5 := same_new (o := .tup [.str "Unreadable", .bl b4]) n4
  have e_t4 := upd_same (H := H4) (a := t4) (o := .tup [.str "Unreadable", .bl b4])
  generalize upd H4 t4 (.tup [.str "Unreadable", .bl b4]) = H5 at *
  have e_t1 := S_H5 _ _ e_t1
  have e_t2 := S_H5 _ _ e_t2
  have e_l1 := S_H5 _ _ e_l1
  have e_t3 := S_H5 _ _ e_t3
  have U_H5 := U_H4.trans S_H5
  refine ⟨size_le (by show 2 ≤ 100000; decide), fun l2 m2 => ?_⟩
  have S_H6 := same_new (o := .lst [.ref t3, .ref t4]) m2
  have e_l2 := upd_same (H := H5) (a := l2) (o := .lst [.ref t3, .ref t4])
  generalize upd H5 l2 (.lst [.ref t3, .ref t4]) = H6 at *
  have e_t1 := S_H6 _ _ e_t1
  have e_t2 := S_H6 _ _ e_t2
  have e_l1 := S_H6 _ _ e_l1
  have e_t3 := S_H6 _ _ e_t3
  have e_t4 := S_H6 _ _ e_t4
  have U_H6 := U_H5.trans S_H6
  refine ⟨l1, l2, _, _, rfl, rfl, e_l1, e_l2, size_le (by show 4 ≤ 100000; decide), fun l3 m3 => ?_⟩
  have S_H7 := same_new (o := .lst ([.ref t1, .ref t2] ++ [.ref t3, .ref t4])) m3
  have e_l3 := upd_same (H := H6) (a := l3) (o := .lst ([.ref t1, .ref t2] ++ [.ref t3, .ref t4]))
  generalize upd H6 l3 (.lst ([.ref t1, .ref t2] ++ [.ref t3, .ref t4])) = H7 at *
  have e_t1 := S_H7 _ _ e_t1
  have e_t2 := S_H7 _ _ e_t2
  have e_l1 := S_H7 _ _ e_l1
  have e_t3 := S_H7 _ _ e_t3
  have e_t4 := S_H7 _ _ e_t4
  have e_l2 := S_H7 _ _ e_l2
  have U_H7 := U_H6.trans S_H7
  refine ⟨_, rfl, _, rfl, a, D, v, _, _, b5, rfl, hE.same U_H7, .own _, k5, size_le (by show 2 ≤ 100000; decide), fun t5 n5 => ?_⟩
  have S_H8 := same_new (o := .tup [.str "TooManyAttempts", .bl b5]) n5
  have e_t5 := upd_same (H := H7) (a := t5) (o := .tup [.str "TooManyAttempts", .bl b5])
  generalize upd H7 t5 (.tup [.str "TooManyAttempts", .bl b5]) = H8 at *
  have e_t1 := S_H8 _ _ e_t1
  have e_t2 := S_H8 _ _ e_t2
  have e_l1 := S_H8 _ _ e_l1
  have e_t3 := S_H8 _ _ e_t3
  have e_t4 := S_H8 _ _ e_t4
  have e_l2 := S_H8 _ _ e_l2
  have e_l3 := S_H8 _ _ e_l3
  have U_H8 := U_H7.trans S_H8
  refine ⟨size_le (by show 1 ≤ 100000; decide), fun l4 m4 => ?_⟩
  have S_H9 := same_new (o := .lst [.ref t5]) m4
  have e_l4 := upd_same (H := H8) (a := l4) (o := .lst [.ref t5])
  generalize upd H8 l4 (.lst [.ref t5]) = H9 at *
  have e_t1 := S_H9 _ _ e_t1
  have e_t2 := S_H9 _ _ e_t2
  have e_l1 := S_H9 _ _ e_l1
  have e_t3 := S_H9 _ _ e_t3
  have e_t4 := S_H9 _ _ e_t4
  have e_l2 := S_H9 _ _ e_l2
  have e_l3 := S_H9 _ _ e_l3
  have e_t5 := S_H9 _ _ e_t5
  have U_H9 := U_H8.trans S_H9
  refine ⟨l3, l4, _, _, rfl, rfl, e_l3, e_l4, size_le (by show 5 ≤ 100000; decide), fun l5 m5 => ?_⟩
  have fresh5 : H l5 = none := U_H9.free m5
  have S_H10 := same_new (o := .lst (([.ref t1, .ref t2] ++ [.ref t3, .ref t4]) ++ [.ref t5])) m5
  have e_l5 := upd_same (H := H9) (a := l5) (o := .lst (([.ref t1, .ref t2] ++ [.ref t3, .ref t4]) ++ [.ref t5]))
  generalize upd H9 l5 (.lst (([.ref t1, .ref t2] ++ [.ref t3, .ref t4]) ++ [.ref t5])) = H10 at *
  have e_t1 := S_H10 _ _ e_t1
  have e_t2 := S_H10 _ _ e_t2
  have e_l1 := S_H10 _ _ e_l1
  have e_t3 := S_H10 _ _ e_t3
  have e_t4 := S_H10 _ _ e_t4
  have e_l2 := S_H10 _ _ e_l2
  have e_l3 := S_H10 _ _ e_l3
  have e_t5 := S_H10 _ _ e_t5
  have e_l4 := S_H10 _ _ e_l4
  have U_H10 := U_H9.trans S_H10
  refine ⟨_, rfl, .inl ⟨rfl, _, sql e_l5⟩, _, rfl, a, D, v, _, _, b6, rfl, hE.same U_H10, .own _, k6, size_le (by show 2 ≤ 100000; decide), fun t6 n6 => ?_⟩
  have S_H11 := same_new (o := .tup [.str "NoMoreAttempts", .bl b6]) n6
  have e_t6 := upd_same (H := H10) (a := t6) (o := .tup [.str "NoMoreAttempts", .bl b6])
  generalize upd H10 t6 (.tup [.str "NoMoreAttempts", .bl b6]) = H11 at *
  have e_t1 := S_H11 _ _ e_t1
  have e_t2 := S_H11 _ _ e_t2
  have e_l1 := S_H11 _ _ e_l1
  have e_t3 := S_H11 _ _ e_t3
  have e_t4 := S_H11 _ _ e_t4
  have e_l2 := S_H11 _ _ e_l2
  have e_l3 := S_H11 _ _ e_l3
  have e_t5 := S_H11 _ _ e_t5
  have e_l4 := S_H11 _ _ e_l4
  have e_l5 := S_H11 _ _ e_l5
  have U_H11 := U_H10.trans S_H11
  refine ⟨l5, _, .ref t6, rfl, rfl, e_l5, size_lt (by show 5 < 100000; decide), ?_⟩
  have R_t1 := tup_over (o := .lst ((([.ref t1, .ref t2] ++ [.ref t3, .ref t4]) ++ [.ref t5]) ++ [.ref t6])) e_t1 e_l5
  have R_t2 := tup_over (o := .lst ((([.ref t1, .ref t2] ++ [.ref t3, .ref t4]) ++ [.ref t5]) ++ [.ref t6])) e_t2 e_l5
  have R_t3 := tup_over (o := .lst ((([.ref t1, .ref t2] ++ [.ref t3, .ref t4]) ++ [.ref t5]) ++ [.ref t6])) e_t3 e_l5
  have R_t4 := tup_over (o := .lst ((([.ref t1, .ref t2] ++ [.ref t3, .ref t4]) ++ [.ref t5]) ++ [.ref t6])) e_t4 e_l5
  have R_t5 := tup_over (o := .lst ((([.ref t1, .ref t2] ++ [.ref t3, .ref t4]) ++ [.ref t5]) ++ [.ref t6])) e_t5 e_l5
  have R_t6 := tup_over (o := .lst ((([.ref t1, .ref t2] ++ [.ref t3, .ref t4]) ++ [.ref t5]) ++ [.ref t6])) e_t6 e_l5
  have R_l := upd_same (H := H11) (a := l5) (o := .lst ((([.ref t1, .ref t2] ++ [.ref t3, .ref t4]) ++ [.ref t5]) ++ [.ref t6]))
  have U := same_keep (o := .lst ((([.ref t1, .ref t2] ++ [.ref t3, .ref t4]) ++ [.ref t5]) ++ [.ref t6])) U_H11 fresh5
  generalize upd H11 l5 (.lst ((([.ref t1, .ref t2] ++ [.ref t3, .ref t4]) ++ [.ref t5]) ++ [.ref t6])) = H12 at *
  have at6 : ∀ (i : Nat) (x : V), ([.ref t1, .ref t2, .ref t3, .ref t4, .ref t5, .ref t6] : List V)[i]? = some x → ∃ (t : Addr) (pr : Str × Bool), x = .ref t ∧ (six b1 b2 b3 b4 b5 b6)[i]? = some pr ∧ H12 t = some (.tup [.str pr.1, .bl pr.2]) := fun i x hx => by
    rcases i with _ | _ | _ | _ | _ | _ | i
    · cases hx; exact ⟨t1, _, rfl, rfl, R_t1⟩
    · cases hx; exact ⟨t2, _, rfl, rfl, R_t2⟩
    · cases hx; exact ⟨t3, _, rfl, rfl, R_t3⟩
    · cases hx; exact ⟨t4, _, rfl, rfl, R_t4⟩
    · cases hx; exact ⟨t5, _, rfl, rfl, R_t5⟩
    · cases hx; exact ⟨t6, _, rfl, rfl, R_t6⟩
    · cases hx
  refine ⟨_, rfl, l5, rfl, ⟨_, sql R_l⟩, fun r0 f0 => lc_list (xs := [.ref t1, .ref t2, .ref t3, .ref t4, .ref t5, .ref t6]) (fun i H' => Same H12 H' ∧ H' r0 = some (.lst (nmsOf ((six b1 b2 b3 b4 b5 b6).take i)))) ⟨same_new f0, upd_same⟩ (fun i H' _ h => sql (h.1 _ _ R_l)) (fun i x H' hx h => ?_) (fun H' h => ?_)⟩
  · obtain ⟨sm, hr⟩ := h
    obtain ⟨t, pr, rfl, hpr, ht⟩ := at6 i x hx
    have hn := nmsOf_next hpr
    have few : (nmsOf ((six b1 b2 b3 b4 b5 b6).take i)).length < 100000 := nmsOf_few _ _ _ _ _ _ _
    refine ⟨t, _, rfl, sqt (sm _ _ ht), rfl, _, _, rfl, _, _, rfl, rfl, rfl, ?_⟩
    refine ⟨_, rfl, pr.2, rfl, ?_⟩
    obtain ⟨nx, b⟩ := pr
    cases b with
    | true =>
      refine iteT ⟨_, rfl, _, hr, size_lt few, same_keep sm f0, ?_⟩
      rw [upd_same, hn]
      rfl
    | false =>
      refine iteF ⟨sm, ?_⟩
      rw [hr, hn]
      exact congrArg (fun l => some (HO.lst l)) (List.append_nil _).symm
  · obtain ⟨sm, hr⟩ := h
    have hr' : H' r0 = some (.lst [.str nm]) := by
      rw [← hnm]
      exact hr
    have Ua := U.trans sm
    refine ⟨_, rfl, _, rfl, a, xn, D, fI, v, rfl, hV, hE.same Ua, _, rfl, a, D, v, _, _, true, rfl, hE.same Ua, .own _, kR, true, rfl, ?_⟩
    refine iteT ⟨_, rfl, a, D, v, _, _, true, rfl, hE.same Ua, .ty "ValueError", kV, size_le (by show 2 ≤ 100000; decide), fun l6 f6 => ?_⟩
    have s6 := same_new (o := .lst [v, .bl true]) f6
    refine ⟨r0, l6, _, _, rfl, rfl, s6 _ _ hr', upd_same, size_le (by show 3 ≤ 100000; decide), fun l7 f7 => ?_⟩
    have s7 := same_new (o := .lst ([.str nm] ++ [v, .bl true])) f7
    exact q _ _ ((Ua.trans s6).trans s7) upd_same

end
end Rn
namespace Rn
open PySem PySem.Spec PyProof.Rows L2
section
variable {P : Program} {w : World} {K : PySem.W.Frag} {mg : Str → Option Value} {base : Heap}
def sp_law_raised (K : PySem.W.Frag) : Sp := fun vs H Q _ => ∃ (door : Int) (x y : V) (due : PyData), vs = [.int door, x, y] ∧ Door H door x y due ∧ ∀ H' v, Same H H' → RE H' v due → Q v H'
theorem ok_law_raised (T : Txt P K mg) : FnOk P w K mg base CX0 6 T.f_law_raised T.d_law_raised ["door", "one", "other"] (sp_law_raised K) := by
  have G_nest := (ok_nest (P := P) (w := w) (base := base) T).mono (by decide : 3 ≤ 5)
  have G_attempts := (ok_attempts (P := P) (w := w) (base := base) T).mono (by decide : 4 ≤ 5)
  have G_flatten := ok_flatten (P := P) (w := w) (base := base) T
  have H_law_error := ok_law_errorE (w := w) (base := base) T
  refine T.F_law_raised.ok sc_law_raised (fun vs H Q E h => ?_) (fun cdv A outer s H vs Q E hr h => ?_)
  · obtain ⟨door, x, y, due, rfl, _⟩ := h
    rfl
  obtain ⟨door, x, y, due, rfl, hd, q⟩ := h
  refine ⟨_, (pss_cons (ps_set (i := 3) sc_law_raised.nd rfl (Or.inl rfl) pe_non)
      (pss_cons (L2N.ps_try_as (i := 4) rfl rfl sc_law_raised.nd rfl rfl ⟨rfl, by decide, Or.inl T.g_RetryError⟩ takes0N (fun W pn xe tk _ => (pss_one (ps_if (pt_cmpR op_eq (pv 0) pe_int (nomark _))
      (pss_one (ps_expr (pe_callS G_nest hr (by rfl) T.g_nest T.F_nest.kp T.b_nest (fun σ => L2N.passAt tk σ) (pa_cons (pv 1) (pa_cons (pv 2) pa_nil)))))
      (pss_one (ps_if (pt_cmpR op_eq (pv 0) pe_int (nomark _))
      (pss_one (ps_expr (pe_callS G_attempts hr (by rfl) T.g_attempts T.F_attempts.kp T.b_attempts (fun σ => L2N.passAt tk σ) (pa_cons (pv 1) pa_nil))))
      (pss_one (ps_expr (pe_callS G_flatten hr (by rfl) T.g_flatten T.F_flatten.kp T.b_flatten (fun σ => L2N.passAt tk σ) (pa_cons (pv 1) pa_nil))))))))) (fun a oe cls d pn hz hf => (pss_one (ps_set (i := 3) sc_law_raised.nd rfl (Or.inl rfl) (pe_callE H_law_error (hr.mono (by decide)) hz hf (by rfl) T.g_law_error T.F_law_error.kp T.b_law_error (pa_cons (pv 4) pa_nil))))))
      (pss_one (ps_ret (pv 3))))), ?_⟩
  have none0 : ∀ {H1 : Hp}, Same H H1 → due = .none → Q .non H1 := fun s1 e => q _ _ s1 (.inl ⟨rfl, e⟩)
  rcases hd with ⟨rfl, p, r, ns, ms, rfl, rfl, hp, hr', z1, z2, du⟩ | ⟨rfl, p, Ls, rfl, hp, hz, hc, du⟩ | ⟨rfl, p, Ls, rfl, hp, hz, hc, du⟩
  · refine ⟨_, rfl, rfl, _, rfl, int_eq (fun _ => ?_) (fun e => absurd rfl e)⟩
    refine ⟨_, rfl, _, rfl, p, r, ns, ms, rfl, hp, hr', z1, z2, fun e H1 u s1 => ⟨_, rfl, none0 s1 (du.trans e)⟩, fun i e H1 d s1 hd => ?_, fun i e H1 d s1 hd => ?_⟩
    · exact ⟨true, T.te_InvalidWait_RetryError, fun _ a0 _ => ⟨_, rfl, a0, _, .int i, _, rfl, ⟨rfl, rfl, T.X_InvalidWait, d, rfl, hd⟩, .inl ⟨rfl, rfl⟩, fun H2 u s2 hu => ⟨_, rfl, q H2 _ (s1.trans s2) (.inr ⟨u, _, _, rfl, by rw [du, e], hu⟩)⟩⟩, fun z => Bool.noConfusion z⟩
    · exact ⟨true, T.te_TooManyAttempts_RetryError, fun _ a0 _ => ⟨_, rfl, a0, _, .int i, _, rfl, ⟨rfl, rfl, T.X_TooManyAttempts, d, rfl, hd⟩, .inr (.inr (.inr (.inr (.inl ⟨rfl, rfl⟩)))), fun H2 u s2 hu => ⟨_, rfl, q H2 _ (s1.trans s2) (.inr ⟨u, _, _, rfl, by rw [du, e], hu⟩)⟩⟩, fun z => Bool.noConfusion z⟩
  · refine ⟨_, rfl, rfl, _, rfl, int_eq (fun e => absurd e (by decide)) (fun _ => ?_)⟩
    refine ⟨_, rfl, rfl, _, rfl, int_eq (fun _ => ?_) (fun e => absurd rfl e)⟩
    refine ⟨_, rfl, p, Ls, rfl, hp, (fun _ L hL => seen_cnt (hc L hL)), hz, fun e H1 s1 => ⟨_, rfl, none0 s1 (by rw [du]; unfold attErr; rw [e])⟩, fun i e H1 d s1 hd => ?_⟩
    exact ⟨true, T.te_InvalidLayer_RetryError, fun _ a0 _ => ⟨_, rfl, a0, _, .int (i : Nat), _, rfl, ⟨rfl, rfl, T.X_InvalidLayer, d, rfl, hd⟩, .inr (.inl ⟨rfl, rfl⟩), fun H2 u s2 hu => ⟨_, rfl, q H2 _ (s1.trans s2) (.inr ⟨u, _, _, rfl, by rw [du]; unfold attErr; rw [e], hu⟩)⟩⟩, fun z => Bool.noConfusion z⟩
  · refine ⟨_, rfl, rfl, _, rfl, int_eq (fun e => absurd e (by decide)) (fun _ => ?_)⟩
    refine ⟨_, rfl, rfl, _, rfl, int_eq (fun e => absurd e (by decide)) (fun _ => ?_)⟩
    refine ⟨_, rfl, p, Ls, rfl, hp, hz, (fun _ L hL => seen_cnt (hc L hL)), fun e small H1 u s1 _ _ => ⟨_, rfl, none0 s1 (by rw [du]; unfold flatErr sizeErr; rw [e]; exact if_neg (by omega))⟩, fun i e H1 d s1 hd => ?_, fun e big H1 d s1 hd => ?_⟩
    · exact ⟨true, T.te_InvalidLayer_RetryError, fun _ a0 _ => ⟨_, rfl, a0, _, .int (i : Nat), _, rfl, ⟨rfl, rfl, T.X_InvalidLayer, d, rfl, hd⟩, .inr (.inl ⟨rfl, rfl⟩), fun H2 u s2 hu => ⟨_, rfl, q H2 _ (s1.trans s2) (.inr ⟨u, _, _, rfl, by rw [du]; unfold flatErr; rw [e], hu⟩)⟩⟩, fun z => Bool.noConfusion z⟩
    · exact ⟨true, T.te_TooManyAttempts_RetryError, fun _ a0 _ => ⟨_, rfl, a0, _, .int (attOf Ls), _, rfl, ⟨rfl, rfl, T.X_TooManyAttempts, d, rfl, hd⟩, .inr (.inr (.inr (.inr (.inl ⟨rfl, rfl⟩)))), fun H2 u s2 hu => ⟨_, rfl, q H2 _ (s1.trans s2) (.inr ⟨u, _, _, rfl, by rw [du]; unfold flatErr sizeErr; rw [e]; dsimp only; rw [if_pos big], hu⟩)⟩⟩, fun z => Bool.noConfusion z⟩

end
end Rn
namespace Rn
open PySem PySem.Spec PyProof.Rows L2
section
variable {P : Program} {w : World} {K : PySem.W.Frag} {mg : Str → Option Value} {base : Heap}
def sp_law_below (K : PySem.W.Frag) : Sp := fun vs H Q _ => ∃ (a d : Addr) (n : Int), vs = [.ref a] ∧ Src H a d n ∧ n ≤ 100000000000000 ∧ ∀ H' x, Adv a d 2 H H' → -1000000000000 < x → x < 0 → Q (.int x) H'
theorem ok_law_below (T : Txt P K mg) : FnOk P w K mg base CX0 2 T.f_law_below T.d_law_below ["source"] (sp_law_below K) := by
  have G_law_draw := ok_law_draw (P := P) (w := w) (base := base) T
  refine T.F_law_below.ok sc_law_below (fun vs H Q E h => ?_) (fun cdv A outer s H vs Q E hr h => ?_)
  · obtain ⟨a, d, n, rfl, _⟩ := h
    rfl
  obtain ⟨a, d, n, rfl, hS, hn, q⟩ := h
  refine ⟨_, (pss_one (ps_ret (pe_op op_sub (pe_un un_neg pe_int) (pe_call G_law_draw hr (by rfl) T.g_law_draw T.F_law_draw.kp T.b_law_draw .nil pass0 (pa_cons (pv 0) (pa_cons (pe_ix ix_list (pe_lst (pa_cons pe_int (pa_cons (pe_op op_pow pe_int pe_int) pa_nil))) (pe_call G_law_draw hr (by rfl) T.g_law_draw T.F_law_draw.kp T.b_law_draw .nil pass0 (pa_cons (pv 0) (pa_cons pe_int pa_nil))) (fun _ _ => rfl)) pa_nil)))))), ?_⟩
  refine ⟨_, rfl, _, rfl, _, _, rfl, rfl, ⟨by decide, by decide, by decide⟩, size_le (by show 2 ≤ 100000; decide), fun o ho => ?_⟩
  have no := hS.new1 ho
  have A1 : Adv a d 0 H (upd H o (.lst [.int 1, .int 100000000000])) := Adv.of (same_new ho)
  have e1 : hid a d (upd H o (.lst [.int 1, .int 100000000000])) o = some (.lst (([1, 100000000000] : List Int).map V.int)) := by
    rw [hid_oth no.1 no.2, upd_same]
    rfl
  show tCall (sp_law_draw K) _ _ _ _ (upd H o (.lst [.int 1, .int 100000000000])) _
  have S1 := A1.src _ hS
  generalize upd H o (.lst [.int 1, .int 100000000000]) = H1 at *
  refine ⟨_, rfl, a, d, n + 0, 2, rfl, S1, by omega, by decide, by decide, fun H2 r2 A2 l2 u2 => ?_⟩
  obtain ⟨m, hm, _, hat⟩ := at_int (ns := [1, 100000000000]) l2 u2
  have hmb : 1 ≤ m ∧ m ≤ 100000000000 := by simp at hm; omega
  refine ⟨o, _, r2, .int m, rfl, rfl, sql (hid_get (A2.same _ _ e1)).1, hat, ?_⟩
  refine ⟨a, d, n + 0 + 1, m, rfl, A2.src _ S1, by omega, by omega, by omega, fun H3 x A3 l3 u3 => ⟨_, _, rfl, rfl, ?_⟩⟩
  exact q H3 _ ((A1.trans A2 (Int.le_refl _)).trans A3 (by decide)) (by omega) (by omega)

end
end Rn
namespace Rn
open PySem PySem.Spec PyProof.Rows L2
section
variable {P : Program} {w : World} {K : PySem.W.Frag} {mg : Str → Option Value} {base : Heap}
def sp_law_spoilt_waits (K : PySem.W.Frag) : Sp := fun vs H Q _ => ∃ (a d p : Addr) (n : Int) (ws : List Int), vs = [.ref a, .ref p] ∧ Src H a d n ∧ n ≤ 10000000000000 ∧ H p = some (.lst (ws.map V.int)) ∧ ws.length ≤ 60 ∧ (∀ x ∈ ws, -1000000000000 < x ∧ x < 1000000000000) ∧
  ∀ H' r zs, Adv a d 10 H H' → H r = none → hid a d H' r = some (.lst ((zs : List Int).map V.int)) → zs.length ≤ 60 → (∀ x ∈ zs, -1000000000000 < x ∧ x < 1000000000000) → Q (.ref r) H'
theorem ok_law_spoilt_waits (T : Txt P K mg) : FnOk P w K mg base CX0 3 T.f_law_spoilt_waits T.d_law_spoilt_waits ["source", "some"] (sp_law_spoilt_waits K) := by
  have G_law_draw := (ok_law_draw (P := P) (w := w) (base := base) T).mono (by decide : 1 ≤ 2)
  have G_law_below := ok_law_below (P := P) (w := w) (base := base) T
  refine T.F_law_spoilt_waits.ok sc_law_spoilt_waits (fun vs H Q E h => ?_) (fun cdv A outer s H vs Q E hr h => ?_)
  · obtain ⟨a, d, p, n, ws, rfl, _⟩ := h
    rfl
  obtain ⟨a, d, p, n, ws, rfl, hS, hn, hp, hl, hb, q⟩ := h
  refine ⟨_, (pss_cons (ps_set (i := 2) sc_law_spoilt_waits.nd rfl (Or.inl rfl) (pe_callTy call_list_of (by rfl) T.m_list (by decide +kernel) (pa_cons (pv 1) pa_nil)))
      (pss_cons (ps_for PassesOwn.never rfl (pi_range1 (by rfl) T.m_range (pa_cons (pe_ix ix_list (pe_lst (pa_cons pe_int (pa_cons pe_int (pa_cons pe_int (pa_cons pe_int pa_nil))))) (pe_call G_law_draw hr (by rfl) T.g_law_draw T.F_law_draw.kp T.b_law_draw .nil pass0 (pa_cons (pv 0) (pa_cons pe_int pa_nil))) (fun _ _ => rfl)) pa_nil)) (pg_name (i := 3) sc_law_spoilt_waits.nd rfl (Or.inl rfl))
      (pss_one (ps_expr (pe_bm PySem.F.plainAttrs_list PySem.F.slot_list_insert PySem.F.type_list_insert mt_insert (pv 2) (pa_cons (pe_call G_law_draw hr (by rfl) T.g_law_draw T.F_law_draw.kp T.b_law_draw .nil pass0 (pa_cons (pv 0) (pa_cons (pe_op op_add (pe_callB call_len_seq (by rfl) T.m_len PySem.boot_len (pa_cons (pv 2) pa_nil)) pe_int) pa_nil))) (pa_cons (pe_call G_law_below hr (by rfl) T.g_law_below T.F_law_below.kp T.b_law_below .nil pass0 (pa_cons (pv 0) pa_nil)) pa_nil))))))
      (pss_one (ps_ret (pe_slice sl_list (pv 2) po_none (po_some pe_int)))))), ?_⟩
  refine ⟨_, rfl, p, _, rfl, .inl (sql hp), fun f hf => ?_⟩
  have nf := hS.new1 hf
  have A1 : Adv a d 0 H (upd H f (.lst (ws.map V.int))) := Adv.of (same_new hf)
  have e1 : hid a d (upd H f (.lst (ws.map V.int))) f = some (.lst (ws.map V.int)) := by rw [hid_oth nf.1 nf.2, upd_same]
  have S1 := A1.src _ hS
  generalize upd H f (.lst (ws.map V.int)) = H1 at *
  refine ⟨size_le (by show 4 ≤ 100000; decide), fun o ho => ?_⟩
  have no := S1.new1 ho
  have A2 : Adv a d 0 H1 (upd H1 o (.lst [.int 0, .int 0, .int 1, .int 2])) := Adv.of (same_new ho)
  have e2 : hid a d (upd H1 o (.lst [.int 0, .int 0, .int 1, .int 2])) o = some (.lst (([0, 0, 1, 2] : List Int).map V.int)) := by
    rw [hid_oth no.1 no.2, upd_same]
    rfl
  have e12 := A2.same _ _ e1
  have S2 := A2.src _ S1
  generalize upd H1 o (.lst [.int 0, .int 0, .int 1, .int 2]) = H2 at *
  refine ⟨_, rfl, a, d, _, 4, rfl, S2, by omega, by decide, by decide, fun H3 r3 A3 l3 u3 => ?_⟩
  obtain ⟨m, hm, _, hat⟩ := at_int (ns := [0, 0, 1, 2]) l3 u3
  have hmb : 0 ≤ m ∧ m ≤ 2 := by simp at hm; omega
  refine ⟨o, _, r3, .int m, rfl, rfl, sql (hid_get (A3.same _ _ e2)).1, hat, ?_⟩
  refine ⟨_, rfl, by omega, by omega, ?_⟩
  have A03 : Adv a d 1 H H3 := ((A1.trans A2 (Int.le_refl _)).trans A3 (Int.le_refl _)).mono (by omega)
  refine for_range (lo := 0) (n := m.toNat) (fun i σ H' => ∃ y3 zs, σ = [some (.ref a), some (.ref p), some (.ref f), y3] ∧ Adv a d (1 + 3 * i) H H' ∧ hid a d H' f = some (.lst ((zs : List Int).map V.int)) ∧ zs.length = ws.length + i ∧ (∀ x ∈ zs, -1000000000000 < x ∧ x < 1000000000000))
    ⟨_, ws, rfl, A03.mono (by omega), A3.same _ _ e12, rfl, hb⟩ (fun i σ H4 hi h => ?_) (fun σ H4 h => ?_)
  · obtain ⟨y3, zs, rfl, A4, e4, hz, hzb⟩ := h
    have S4 := A4.src _ hS
    refine ⟨_, rfl, .inl ⟨rfl, _, sql (hid_get e4).1⟩, ?_⟩
    refine ⟨_, rfl, _, rfl, f, _, rfl, .inl (sql (hid_get e4).1), _, _, rfl, rfl, ?_⟩
    refine ⟨a, d, _, ((zs.map V.int).length : Int) + 1, rfl, S4, by omega, by omega, by rw [List.length_map]; omega, fun H5 r5 A5 l5 u5 => ?_⟩
    have S5 := A5.src _ S4
    refine ⟨_, rfl, a, d, _, rfl, S5, by omega, fun H6 x A6 lx ux => ?_⟩
    have e6 := A6.same _ _ (A5.same _ _ e4)
    obtain ⟨j, rfl⟩ : ∃ j : Nat, r5 = (j : Int) := ⟨r5.toNat, by omega⟩
    refine ⟨f, _, _, _, rfl, rfl, (hid_get e6).1, size_lt (by rw [List.length_map]; omega), l5, by rw [List.length_map] at u5; omega, ?_⟩
    have e7 : (zs.map V.int).take (j : Int).toNat ++ [V.int x] ++ (zs.map V.int).drop (j : Int).toNat = (zs.take j ++ [x] ++ zs.drop j).map V.int := by
      rw [Int.toNat_natCast, List.map_append, List.map_append, List.map_take, List.map_drop]
      rfl
    rw [e7]
    refine ⟨_, zs.take j ++ [x] ++ zs.drop j, rfl, ?_, ?_, ?_, fun y hy => ?_⟩
    · exact (((A4.trans A5 (Int.le_refl _)).trans A6 (Int.le_refl _)).mut hS hf).mono (by omega)
    · rw [hid_oth nf.1 nf.2, upd_same]
    · have := congrArg List.length (List.take_append_drop j zs)
      rw [List.length_append] at this
      rw [List.length_append, List.length_append, List.length_singleton]
      omega
    · rcases List.mem_append.mp hy with z | z
      · rcases List.mem_append.mp z with z | z
        · exact hzb y (List.mem_of_mem_take z)
        · rw [List.mem_singleton.mp z]
          exact ⟨lx, by omega⟩
      · exact hzb y (List.mem_of_mem_drop z)
  · obtain ⟨y3, zs, rfl, A4, e4, hz, hzb⟩ := h
    refine ⟨_, rfl, _, rfl, f, _, rfl, sql (hid_get e4).1, fun r hr' => ?_⟩
    rw [show cutV (zs.map V.int) none (some 60) = (zs.take 60).map V.int from (cut_n _ 60).trans List.map_take.symm]
    have S4 := A4.src _ hS
    have nr := S4.new1 hr'
    refine q _ r (zs.take 60) ((A4.trans (Adv.of (same_new hr')) (Int.le_refl _)).mono (by omega)) (A4.free hS hr') (by rw [hid_oth nr.1 nr.2, upd_same]) ?_ fun x hx => hzb x (List.mem_of_mem_take hx)
    rw [List.length_take]
    omega

end
end Rn
namespace Rn
open PySem PySem.Spec PyProof.Rows L2
section
variable {P : Program} {w : World} {K : PySem.W.Frag} {mg : Str → Option Value} {base : Heap}
theorem ne_hid {a d f x : Addr} {H : Hp} {o : HO} (e : hid a d H f = some o) (h : H x = none) : x ≠ f := fun z => by
  rw [z, (hid_get e).1] at h
  cases h
theorem ins_ne {us : List V} {v : V} {f : Addr} {j : Nat} (h : ∀ x, V.ref x ∈ us → x ≠ f) (hv : ∀ x, v = .ref x → x ≠ f) {x : Addr} (hx : V.ref x ∈ us.take j ++ [v] ++ us.drop j) : x ≠ f := by
  rcases List.mem_append.mp hx with z | z
  · rcases List.mem_append.mp z with z | z
    · exact h x (List.mem_of_mem_take z)
    · exact hv x (List.mem_singleton.mp z).symm
  · exact h x (List.mem_of_mem_drop z)
def sp_law_spoilt_layers (K : PySem.W.Frag) : Sp := fun vs H Q _ => ∃ (a d p : Addr) (n : Int) (us : List V) (Ls : List Lay), vs = [.ref a, .ref p] ∧ Src H a d n ∧ n ≤ 1000000000000 ∧ hid a d H p = some (.lst us) ∧ Lays (hid a d H) us Ls ∧ Ls.length ≤ 6 ∧ (∀ L ∈ Ls, L.seen) ∧
  ∀ H' r vs Ms, Adv a d 500 H H' → H r = none → hid a d H' r = some (.lst vs) → Lays (hid a d H') vs Ms → Ms.length ≤ 8 → (∀ L ∈ Ms, L.seen) → Q (.ref r) H'
theorem ok_law_spoilt_layers (T : Txt P K mg) : FnOk P w K mg base CX0 4 T.f_law_spoilt_layers T.d_law_spoilt_layers ["source", "layers"] (sp_law_spoilt_layers K) := by
  have G_law_draw := (ok_law_draw (P := P) (w := w) (base := base) T).mono (by decide : 1 ≤ 3)
  have G_law_wait_drawn := (ok_law_wait_drawn (P := P) (w := w) (base := base) T).mono (by decide : 2 ≤ 3)
  have G_law_below := (ok_law_below (P := P) (w := w) (base := base) T).mono (by decide : 2 ≤ 3)
  have G_law_policy := ok_law_policy (P := P) (w := w) (base := base) T
  refine T.F_law_spoilt_layers.ok sc_law_spoilt_layers (fun vs H Q E h => ?_) (fun cdv A outer s H vs Q E hr h => ?_)
  · obtain ⟨a, d, p, n, us, Ls, rfl, _⟩ := h
    rfl
  obtain ⟨a, d, p, n, us0, Ls0, rfl, hS, hn, hp, hL0, hl0, hs0, q⟩ := h
  refine ⟨_, (pss_cons (ps_set (i := 2) sc_law_spoilt_layers.nd rfl (Or.inl rfl) (pe_callTy call_list_of (by rfl) T.m_list (by decide +kernel) (pa_cons (pv 1) pa_nil)))
      (pss_cons (ps_for PassesOwn.never rfl (pi_range1 (by rfl) T.m_range (pa_cons (pe_ix ix_list (pe_lst (pa_cons pe_int (pa_cons pe_int (pa_cons pe_int pa_nil)))) (pe_call G_law_draw hr (by rfl) T.g_law_draw T.F_law_draw.kp T.b_law_draw .nil pass0 (pa_cons (pv 0) (pa_cons pe_int pa_nil))) (fun _ _ => rfl)) pa_nil)) (pg_name (i := 3) sc_law_spoilt_layers.nd rfl (Or.inl rfl))
      (pss_cons (ps_set (i := 4) sc_law_spoilt_layers.nd rfl (Or.inl rfl) (pe_call G_law_wait_drawn hr (by rfl) T.g_law_wait_drawn T.F_law_wait_drawn.kp T.b_law_wait_drawn .nil pass0 (pa_cons (pv 0) pa_nil)))
      (pss_cons (ps_set (i := 5) sc_law_spoilt_layers.nd rfl (Or.inl rfl) (pe_lst (pa_cons (pe_tup (pa_cons (pv 4) (pa_cons pe_int pa_nil))) (pa_cons (pe_tup (pa_cons (pv 4) (pa_cons (pe_call G_law_below hr (by rfl) T.g_law_below T.F_law_below.kp T.b_law_below .nil pass0 (pa_cons (pv 0) pa_nil)) pa_nil))) (pa_cons (pe_tup (pa_cons (pe_call G_law_below hr (by rfl) T.g_law_below T.F_law_below.kp T.b_law_below .nil pass0 (pa_cons (pv 0) pa_nil)) (pa_cons (pe_op op_add pe_int (pe_call G_law_draw hr (by rfl) T.g_law_draw T.F_law_draw.kp T.b_law_draw .nil pass0 (pa_cons (pv 0) (pa_cons pe_int pa_nil)))) pa_nil))) (pa_cons (pe_tup (pa_cons (pe_un un_neg pe_int) (pa_cons pe_int pa_nil))) pa_nil))))))
      (pss_cons (ps_set (i := 5) sc_law_spoilt_layers.nd rfl (Or.inl rfl) (pe_op op_cat (pv 5) (pe_lst (pa_cons (pe_lst (pa_cons (pe_call G_law_below hr (by rfl) T.g_law_below T.F_law_below.kp T.b_law_below .nil pass0 (pa_cons (pv 0) pa_nil)) pa_nil)) (pa_cons (pe_op op_cat (pe_op op_cat (pe_call G_law_policy hr (by rfl) T.g_law_policy T.F_law_policy.kp T.b_law_policy .nil pass0 (pa_cons (pv 0) (pa_cons pe_int pa_nil))) (pe_lst (pa_cons (pe_call G_law_below hr (by rfl) T.g_law_below T.F_law_below.kp T.b_law_below .nil pass0 (pa_cons (pv 0) pa_nil)) pa_nil))) (pe_call G_law_policy hr (by rfl) T.g_law_policy T.F_law_policy.kp T.b_law_policy .nil pass0 (pa_cons (pv 0) (pa_cons pe_int pa_nil)))) pa_nil)))))
      (pss_one (ps_expr (pe_bm PySem.F.plainAttrs_list PySem.F.slot_list_insert PySem.F.type_list_insert mt_insert (pv 2) (pa_cons (pe_call G_law_draw hr (by rfl) T.g_law_draw T.F_law_draw.kp T.b_law_draw .nil pass0 (pa_cons (pv 0) (pa_cons (pe_op op_add (pe_callB call_len_seq (by rfl) T.m_len PySem.boot_len (pa_cons (pv 2) pa_nil)) pe_int) pa_nil))) (pa_cons (pe_ix ix_list (pv 5) (pe_call G_law_draw hr (by rfl) T.g_law_draw T.F_law_draw.kp T.b_law_draw .nil pass0 (pa_cons (pv 0) (pa_cons pe_int pa_nil))) (fun _ _ => rfl)) pa_nil)))))))))
      (pss_one (ps_ret (pe_slice sl_list (pv 2) po_none (po_some pe_int)))))), ?_⟩
  refine ⟨_, rfl, p, _, rfl, .inl (sql (hid_get hp).1), fun f hf => ?_⟩
  have nf := hS.new1 hf
  have hne0 : ∀ x, V.ref x ∈ us0 → x ≠ f := fun x hx z => by
    obtain ⟨y, o, e, g⟩ := hL0.ref hx
    cases e
    rw [z] at g
    rw [(hid_get g).1] at hf
    cases hf
  have A1 : Adv a d 0 H (upd H f (.lst us0)) := Adv.of (same_new hf)
  have e1 : hid a d (upd H f (.lst us0)) f = some (.lst us0) := by rw [hid_oth nf.1 nf.2, upd_same]
  have S1 := A1.src _ hS
  have hL1 := hL0.same A1.same
  generalize upd H f (.lst us0) = H1 at *
  refine ⟨size_le (by show 3 ≤ 100000; decide), fun o ho => ?_⟩
  have no := S1.new1 ho
  have A2 : Adv a d 0 H1 (upd H1 o (.lst [.int 0, .int 1, .int 2])) := Adv.of (same_new ho)
  have e2 : hid a d (upd H1 o (.lst [.int 0, .int 1, .int 2])) o = some (.lst (([0, 1, 2] : List Int).map V.int)) := by
    rw [hid_oth no.1 no.2, upd_same]
    rfl
  have e12 := A2.same _ _ e1
  have hL2 := hL1.same A2.same
  have S2 := A2.src _ S1
  generalize upd H1 o (.lst [.int 0, .int 1, .int 2]) = H2 at *
  refine ⟨_, rfl, a, d, _, 3, rfl, S2, by omega, by decide, by decide, fun H3 r3 A3 l3 u3 => ?_⟩
  obtain ⟨m, hm, _, hat⟩ := at_int (ns := [0, 1, 2]) l3 u3
  have hmb : 0 ≤ m ∧ m ≤ 2 := by simp at hm; omega
  refine ⟨o, _, r3, .int m, rfl, rfl, sql (hid_get (A3.same _ _ e2)).1, hat, ?_⟩
  refine ⟨_, rfl, by omega, by omega, ?_⟩
  have A03 : Adv a d 1 H H3 := ((A1.trans A2 (Int.le_refl _)).trans A3 (Int.le_refl _)).mono (by omega)
  have e3 := A3.same _ _ e12
  have hL3 := hL2.same A3.same
  clear A1 A2 A3 e1 e2 e12 hL1 hL2 S1 S2 hat hm
  refine for_range (lo := 0) (n := m.toNat) (fun i σ H' => ∃ us Ls y3 y4 y5, σ = [some (.ref a), some (.ref p), some (.ref f), y3, y4, y5] ∧ Adv a d (1 + 200 * i) H H' ∧ hid a d H' f = some (.lst us) ∧ Lays (hid a d H') us Ls ∧ Ls.length ≤ 6 + i ∧ (∀ x, V.ref x ∈ us → x ≠ f) ∧ (∀ L ∈ Ls, L.seen))
    ⟨us0, Ls0, _, _, _, rfl, A03.mono (by omega), e3, hL3, by omega, hne0, hs0⟩ (fun i σ H3 hi h => ?_) (fun σ H3 h => ?_)
  · obtain ⟨us, Ls, y3, y4, y5, rfl, A3, ef, hL, hz, hne, hsn⟩ := h
    have S_H3 := A3.src _ hS
    have C_H3 : Adv a d 0 H3 H3 := Adv.refl
    refine ⟨_, rfl, a, d, _, rfl, S_H3, by omega, fun H4 wt A_H4 l_wt u_wt => ?_⟩
    have C_H4 : Adv a d _ H3 H4 := C_H3.trans A_H4 (Int.le_refl _)
    have S_H4 := A_H4.src _ S_H3
    have ef := A_H4.same _ _ ef
    have hL := hL.same A_H4.same
    refine ⟨_, rfl, size_le (by show 2 ≤ 100000; decide), fun t1 h1 => ?_⟩
    have nn_t1 := S_H4.new1 h1
    have A_H5 : Adv a d 0 H4 (upd H4 t1 (.tup [.int wt, .int 0])) := Adv.of (same_new h1)
    have e_t1 : hid a d (upd H4 t1 (.tup [.int wt, .int 0])) t1 = some (.tup [.int wt, .int 0]) := by rw [hid_oth nn_t1.1 nn_t1.2, upd_same]
    have g_t1 : t1 ≠ f := ne_hid ef h1
    generalize upd H4 t1 (.tup [.int wt, .int 0]) = H5 at *
    have C_H5 : Adv a d _ H3 H5 := C_H4.trans A_H5 (Int.le_refl _)
    have S_H5 := A_H5.src _ S_H4
    have ef := A_H5.same _ _ ef
    have hL := hL.same A_H5.same
    refine ⟨_, rfl, ?_⟩
    refine ⟨_, rfl, a, d, _, rfl, S_H5, by omega, fun H6 x2 A_H6 l_x2 u_x2 => ?_⟩
    have C_H6 : Adv a d _ H3 H6 := C_H5.trans A_H6 (Int.le_refl _)
    have S_H6 := A_H6.src _ S_H5
    have ef := A_H6.same _ _ ef
    have e_t1 := A_H6.same _ _ e_t1
    have hL := hL.same A_H6.same
    refine ⟨size_le (by show 2 ≤ 100000; decide), fun t2 h2 => ?_⟩
    have nn_t2 := S_H6.new1 h2
    have A_H7 : Adv a d 0 H6 (upd H6 t2 (.tup [.int wt, .int x2])) := Adv.of (same_new h2)
    have e_t2 : hid a d (upd H6 t2 (.tup [.int wt, .int x2])) t2 = some (.tup [.int wt, .int x2]) := by rw [hid_oth nn_t2.1 nn_t2.2, upd_same]
    have g_t2 : t2 ≠ f := ne_hid ef h2
    generalize upd H6 t2 (.tup [.int wt, .int x2]) = H7 at *
    have C_H7 : Adv a d _ H3 H7 := C_H6.trans A_H7 (Int.le_refl _)
    have S_H7 := A_H7.src _ S_H6
    have ef := A_H7.same _ _ ef
    have e_t1 := A_H7.same _ _ e_t1
    have hL := hL.same A_H7.same
    refine ⟨_, rfl, a, d, _, rfl, S_H7, by omega, fun H8 x3 A_H8 l_x3 u_x3 => ?_⟩
    have C_H8 : Adv a d _ H3 H8 := C_H7.trans A_H8 (Int.le_refl _)
    have S_H8 := A_H8.src _ S_H7
    have ef := A_H8.same _ _ ef
    have e_t1 := A_H8.same _ _ e_t1
    have e_t2 := A_H8.same _ _ e_t2
    have hL := hL.same A_H8.same
    refine ⟨_, rfl, a, d, _, 3, rfl, S_H8, by omega, by decide, by decide, fun H9 r3 A_H9 l_r3 u_r3 => ?_⟩
    have C_H9 : Adv a d _ H3 H9 := C_H8.trans A_H9 (Int.le_refl _)
    have S_H9 := A_H9.src _ S_H8
    have ef := A_H9.same _ _ ef
    have e_t1 := A_H9.same _ _ e_t1
    have e_t2 := A_H9.same _ _ e_t2
    have hL := hL.same A_H9.same
    refine ⟨_, _, rfl, rfl, size_le (by show 2 ≤ 100000; decide), fun t3 h3 => ?_⟩
    have nn_t3 := S_H9.new1 h3
    have A_H10 : Adv a d 0 H9 (upd H9 t3 (.tup [.int x3, .int (1 + r3)])) := Adv.of (same_new h3)
    have e_t3 : hid a d (upd H9 t3 (.tup [.int x3, .int (1 + r3)])) t3 = some (.tup [.int x3, .int (1 + r3)]) := by rw [hid_oth nn_t3.1 nn_t3.2, upd_same]
    have g_t3 : t3 ≠ f := ne_hid ef h3
    generalize upd H9 t3 (.tup [.int x3, .int (1 + r3)]) = H10 at *
    have C_H10 : Adv a d _ H3 H10 := C_H9.trans A_H10 (Int.le_refl _)
    have S_H10 := A_H10.src _ S_H9
    have ef := A_H10.same _ _ ef
    have e_t1 := A_H10.same _ _ e_t1
    have e_t2 := A_H10.same _ _ e_t2
    have hL := hL.same A_H10.same
    refine ⟨_, rfl, size_le (by show 2 ≤ 100000; decide), fun t4 h4 => ?_⟩
    have nn_t4 := S_H10.new1 h4
    have A_H11 : Adv a d 0 H10 (upd H10 t4 (.tup [.int (-1), .int 0])) := Adv.of (same_new h4)
    have e_t4 : hid a d (upd H10 t4 (.tup [.int (-1), .int 0])) t4 = some (.tup [.int (-1), .int 0]) := by rw [hid_oth nn_t4.1 nn_t4.2, upd_same]
    have g_t4 : t4 ≠ f := ne_hid ef h4
    generalize upd H10 t4 (.tup [.int (-1), .int 0]) = H11 at *
    have C_H11 : Adv a d _ H3 H11 := C_H10.trans A_H11 (Int.le_refl _)
    have S_H11 := A_H11.src _ S_H10
    have ef := A_H11.same _ _ ef
    have e_t1 := A_H11.same _ _ e_t1
    have e_t2 := A_H11.same _ _ e_t2
    have e_t3 := A_H11.same _ _ e_t3
    have hL := hL.same A_H11.same
    refine ⟨size_le (by show 4 ≤ 100000; decide), fun l5 h5 => ?_⟩
    have nn_l5 := S_H11.new1 h5
    have A_H12 : Adv a d 0 H11 (upd H11 l5 (.lst [.ref t1, .ref t2, .ref t3, .ref t4])) := Adv.of (same_new h5)
    have e_l5 : hid a d (upd H11 l5 (.lst [.ref t1, .ref t2, .ref t3, .ref t4])) l5 = some (.lst [.ref t1, .ref t2, .ref t3, .ref t4]) := by rw [hid_oth nn_l5.1 nn_l5.2, upd_same]
    have g_l5 : l5 ≠ f := ne_hid ef h5
    generalize upd H11 l5 (.lst [.ref t1, .ref t2, .ref t3, .ref t4]) = H12 at *
    have C_H12 : Adv a d _ H3 H12 := C_H11.trans A_H12 (Int.le_refl _)
    have S_H12 := A_H12.src _ S_H11
    have ef := A_H12.same _ _ ef
    have e_t1 := A_H12.same _ _ e_t1
    have e_t2 := A_H12.same _ _ e_t2
    have e_t3 := A_H12.same _ _ e_t3
    have e_t4 := A_H12.same _ _ e_t4
    have hL := hL.same A_H12.same
    refine ⟨_, rfl, ?_⟩
    refine ⟨_, rfl, a, d, _, rfl, S_H12, by omega, fun H13 x5 A_H13 l_x5 u_x5 => ?_⟩
    have C_H13 : Adv a d _ H3 H13 := C_H12.trans A_H13 (Int.le_refl _)
    have S_H13 := A_H13.src _ S_H12
    have ef := A_H13.same _ _ ef
    have e_t1 := A_H13.same _ _ e_t1
    have e_t2 := A_H13.same _ _ e_t2
    have e_t3 := A_H13.same _ _ e_t3
    have e_t4 := A_H13.same _ _ e_t4
    have e_l5 := A_H13.same _ _ e_l5
    have hL := hL.same A_H13.same
    refine ⟨size_le (by show 1 ≤ 100000; decide), fun q5 h6 => ?_⟩
    have nn_q5 := S_H13.new1 h6
    have A_H14 : Adv a d 0 H13 (upd H13 q5 (.lst [.int x5])) := Adv.of (same_new h6)
    have e_q5 : hid a d (upd H13 q5 (.lst [.int x5])) q5 = some (.lst [.int x5]) := by rw [hid_oth nn_q5.1 nn_q5.2, upd_same]
    have g_q5 : q5 ≠ f := ne_hid ef h6
    generalize upd H13 q5 (.lst [.int x5]) = H14 at *
    have C_H14 : Adv a d _ H3 H14 := C_H13.trans A_H14 (Int.le_refl _)
    have S_H14 := A_H14.src _ S_H13
    have ef := A_H14.same _ _ ef
    have e_t1 := A_H14.same _ _ e_t1
    have e_t2 := A_H14.same _ _ e_t2
    have e_t3 := A_H14.same _ _ e_t3
    have e_t4 := A_H14.same _ _ e_t4
    have e_l5 := A_H14.same _ _ e_l5
    have hL := hL.same A_H14.same
    refine ⟨_, rfl, a, d, _, 4, rfl, S_H14, by omega, by decide, by decide, fun H15 p1 w1 A_H15 f_p1 e_p1 l_w1 b_w1 => ?_⟩
    have g_p1 : p1 ≠ f := fun z => by have := (hid_get (A_H15.same _ _ ef)).1; have q2 := (hid_get e_p1).1; rw [z] at q2; exact absurd f_p1 (by rw [z]; exact fun q => by rw [(hid_get ef).1] at q; cases q)
    have C_H15 : Adv a d _ H3 H15 := C_H14.trans A_H15 (Int.le_refl _)
    have S_H15 := A_H15.src _ S_H14
    have ef := A_H15.same _ _ ef
    have e_t1 := A_H15.same _ _ e_t1
    have e_t2 := A_H15.same _ _ e_t2
    have e_t3 := A_H15.same _ _ e_t3
    have e_t4 := A_H15.same _ _ e_t4
    have e_l5 := A_H15.same _ _ e_l5
    have e_q5 := A_H15.same _ _ e_q5
    have hL := hL.same A_H15.same
    refine ⟨_, rfl, a, d, _, rfl, S_H15, by omega, fun H16 x6 A_H16 l_x6 u_x6 => ?_⟩
    have C_H16 : Adv a d _ H3 H16 := C_H15.trans A_H16 (Int.le_refl _)
    have S_H16 := A_H16.src _ S_H15
    have ef := A_H16.same _ _ ef
    have e_t1 := A_H16.same _ _ e_t1
    have e_t2 := A_H16.same _ _ e_t2
    have e_t3 := A_H16.same _ _ e_t3
    have e_t4 := A_H16.same _ _ e_t4
    have e_l5 := A_H16.same _ _ e_l5
    have e_q5 := A_H16.same _ _ e_q5
    have e_p1 := A_H16.same _ _ e_p1
    have hL := hL.same A_H16.same
    refine ⟨size_le (by show 1 ≤ 100000; decide), fun q6 h7 => ?_⟩
    have nn_q6 := S_H16.new1 h7
    have A_H17 : Adv a d 0 H16 (upd H16 q6 (.lst [.int x6])) := Adv.of (same_new h7)
    have e_q6 : hid a d (upd H16 q6 (.lst [.int x6])) q6 = some (.lst [.int x6]) := by rw [hid_oth nn_q6.1 nn_q6.2, upd_same]
    have g_q6 : q6 ≠ f := ne_hid ef h7
    generalize upd H16 q6 (.lst [.int x6]) = H17 at *
    have C_H17 : Adv a d _ H3 H17 := C_H16.trans A_H17 (Int.le_refl _)
    have S_H17 := A_H17.src _ S_H16
    have ef := A_H17.same _ _ ef
    have e_t1 := A_H17.same _ _ e_t1
    have e_t2 := A_H17.same _ _ e_t2
    have e_t3 := A_H17.same _ _ e_t3
    have e_t4 := A_H17.same _ _ e_t4
    have e_l5 := A_H17.same _ _ e_l5
    have e_q5 := A_H17.same _ _ e_q5
    have e_p1 := A_H17.same _ _ e_p1
    have hL := hL.same A_H17.same
    refine ⟨p1, q6, _, _, rfl, rfl, (hid_get e_p1).1, (hid_get e_q6).1, size_le (by rw [List.length_map]; show w1.length + 1 ≤ 100000; omega), fun c1 h8 => ?_⟩
    have nn_c1 := S_H17.new1 h8
    have A_H18 : Adv a d 0 H17 (upd H17 c1 (.lst (w1.map V.int ++ [.int x6]))) := Adv.of (same_new h8)
    have e_c1 : hid a d (upd H17 c1 (.lst (w1.map V.int ++ [.int x6]))) c1 = some (.lst (w1.map V.int ++ [.int x6])) := by rw [hid_oth nn_c1.1 nn_c1.2, upd_same]
    have g_c1 : c1 ≠ f := ne_hid ef h8
    generalize upd H17 c1 (.lst (w1.map V.int ++ [.int x6])) = H18 at *
    have C_H18 : Adv a d _ H3 H18 := C_H17.trans A_H18 (Int.le_refl _)
    have S_H18 := A_H18.src _ S_H17
    have ef := A_H18.same _ _ ef
    have e_t1 := A_H18.same _ _ e_t1
    have e_t2 := A_H18.same _ _ e_t2
    have e_t3 := A_H18.same _ _ e_t3
    have e_t4 := A_H18.same _ _ e_t4
    have e_l5 := A_H18.same _ _ e_l5
    have e_q5 := A_H18.same _ _ e_q5
    have e_p1 := A_H18.same _ _ e_p1
    have e_q6 := A_H18.same _ _ e_q6
    have hL := hL.same A_H18.same
    refine ⟨_, rfl, a, d, _, 4, rfl, S_H18, by omega, by decide, by decide, fun H19 p2 w2 A_H19 f_p2 e_p2 l_w2 b_w2 => ?_⟩
    have g_p2 : p2 ≠ f := fun z => by have := (hid_get (A_H19.same _ _ ef)).1; have q2 := (hid_get e_p2).1; rw [z] at q2; exact absurd f_p2 (by rw [z]; exact fun q => by rw [(hid_get ef).1] at q; cases q)
    have C_H19 : Adv a d _ H3 H19 := C_H18.trans A_H19 (Int.le_refl _)
    have S_H19 := A_H19.src _ S_H18
    have ef := A_H19.same _ _ ef
    have e_t1 := A_H19.same _ _ e_t1
    have e_t2 := A_H19.same _ _ e_t2
    have e_t3 := A_H19.same _ _ e_t3
    have e_t4 := A_H19.same _ _ e_t4
    have e_l5 := A_H19.same _ _ e_l5
    have e_q5 := A_H19.same _ _ e_q5
    have e_p1 := A_H19.same _ _ e_p1
    have e_q6 := A_H19.same _ _ e_q6
    have e_c1 := A_H19.same _ _ e_c1
    have hL := hL.same A_H19.same
    refine ⟨c1, p2, _, _, rfl, rfl, (hid_get e_c1).1, (hid_get e_p2).1, size_le (by rw [List.length_append, List.length_map, List.length_map]; show w1.length + 1 + w2.length ≤ 100000; omega), fun c2 h9 => ?_⟩
    have nn_c2 := S_H19.new1 h9
    have A_H20 : Adv a d 0 H19 (upd H19 c2 (.lst (w1.map V.int ++ [.int x6] ++ w2.map V.int))) := Adv.of (same_new h9)
    have e_c2 : hid a d (upd H19 c2 (.lst (w1.map V.int ++ [.int x6] ++ w2.map V.int))) c2 = some (.lst (w1.map V.int ++ [.int x6] ++ w2.map V.int)) := by rw [hid_oth nn_c2.1 nn_c2.2, upd_same]
    have g_c2 : c2 ≠ f := ne_hid ef h9
    generalize upd H19 c2 (.lst (w1.map V.int ++ [.int x6] ++ w2.map V.int)) = H20 at *
    have C_H20 : Adv a d _ H3 H20 := C_H19.trans A_H20 (Int.le_refl _)
    have S_H20 := A_H20.src _ S_H19
    have ef := A_H20.same _ _ ef
    have e_t1 := A_H20.same _ _ e_t1
    have e_t2 := A_H20.same _ _ e_t2
    have e_t3 := A_H20.same _ _ e_t3
    have e_t4 := A_H20.same _ _ e_t4
    have e_l5 := A_H20.same _ _ e_l5
    have e_q5 := A_H20.same _ _ e_q5
    have e_p1 := A_H20.same _ _ e_p1
    have e_q6 := A_H20.same _ _ e_q6
    have e_c1 := A_H20.same _ _ e_c1
    have e_p2 := A_H20.same _ _ e_p2
    have hL := hL.same A_H20.same
    refine ⟨size_le (by show 2 ≤ 100000; decide), fun l6 h10 => ?_⟩
    have nn_l6 := S_H20.new1 h10
    have A_H21 : Adv a d 0 H20 (upd H20 l6 (.lst [.ref q5, .ref c2])) := Adv.of (same_new h10)
    have e_l6 : hid a d (upd H20 l6 (.lst [.ref q5, .ref c2])) l6 = some (.lst [.ref q5, .ref c2]) := by rw [hid_oth nn_l6.1 nn_l6.2, upd_same]
    have g_l6 : l6 ≠ f := ne_hid ef h10
    generalize upd H20 l6 (.lst [.ref q5, .ref c2]) = H21 at *
    have C_H21 : Adv a d _ H3 H21 := C_H20.trans A_H21 (Int.le_refl _)
    have S_H21 := A_H21.src _ S_H20
    have ef := A_H21.same _ _ ef
    have e_t1 := A_H21.same _ _ e_t1
    have e_t2 := A_H21.same _ _ e_t2
    have e_t3 := A_H21.same _ _ e_t3
    have e_t4 := A_H21.same _ _ e_t4
    have e_l5 := A_H21.same _ _ e_l5
    have e_q5 := A_H21.same _ _ e_q5
    have e_p1 := A_H21.same _ _ e_p1
    have e_q6 := A_H21.same _ _ e_q6
    have e_c1 := A_H21.same _ _ e_c1
    have e_p2 := A_H21.same _ _ e_p2
    have e_c2 := A_H21.same _ _ e_c2
    have hL := hL.same A_H21.same
    refine ⟨l5, l6, _, _, rfl, rfl, (hid_get e_l5).1, (hid_get e_l6).1, size_le (by show 6 ≤ 100000; decide), fun l7 h11 => ?_⟩
    have nn_l7 := S_H21.new1 h11
    have A_H22 : Adv a d 0 H21 (upd H21 l7 (.lst ([.ref t1, .ref t2, .ref t3, .ref t4] ++ [.ref q5, .ref c2]))) := Adv.of (same_new h11)
    have e_l7 : hid a d (upd H21 l7 (.lst ([.ref t1, .ref t2, .ref t3, .ref t4] ++ [.ref q5, .ref c2]))) l7 = some (.lst ([.ref t1, .ref t2, .ref t3, .ref t4] ++ [.ref q5, .ref c2])) := by rw [hid_oth nn_l7.1 nn_l7.2, upd_same]
    have g_l7 : l7 ≠ f := ne_hid ef h11
    generalize upd H21 l7 (.lst ([.ref t1, .ref t2, .ref t3, .ref t4] ++ [.ref q5, .ref c2])) = H22 at *
    have C_H22 : Adv a d _ H3 H22 := C_H21.trans A_H22 (Int.le_refl _)
    have S_H22 := A_H22.src _ S_H21
    have ef := A_H22.same _ _ ef
    have e_t1 := A_H22.same _ _ e_t1
    have e_t2 := A_H22.same _ _ e_t2
    have e_t3 := A_H22.same _ _ e_t3
    have e_t4 := A_H22.same _ _ e_t4
    have e_l5 := A_H22.same _ _ e_l5
    have e_q5 := A_H22.same _ _ e_q5
    have e_p1 := A_H22.same _ _ e_p1
    have e_q6 := A_H22.same _ _ e_q6
    have e_c1 := A_H22.same _ _ e_c1
    have e_p2 := A_H22.same _ _ e_p2
    have e_c2 := A_H22.same _ _ e_c2
    have e_l6 := A_H22.same _ _ e_l6
    have hL := hL.same A_H22.same
    refine ⟨_, rfl, .inl ⟨rfl, _, sql (hid_get ef).1⟩, ?_⟩
    have lus : us.length ≤ 6 + i := by rw [hL.1]; exact hz
    refine ⟨_, rfl, _, rfl, f, _, rfl, .inl (sql (hid_get ef).1), _, _, rfl, rfl, a, d, _, (us.length : Int) + 1, rfl, S_H22, by omega, by omega, by omega, fun H23 rj A_H23 l_rj u_rj => ?_⟩
    have C_H23 : Adv a d _ H3 H23 := C_H22.trans A_H23 (Int.le_refl _)
    have S_H23 := A_H23.src _ S_H22
    have ef := A_H23.same _ _ ef
    have e_t1 := A_H23.same _ _ e_t1
    have e_t2 := A_H23.same _ _ e_t2
    have e_t3 := A_H23.same _ _ e_t3
    have e_t4 := A_H23.same _ _ e_t4
    have e_l5 := A_H23.same _ _ e_l5
    have e_q5 := A_H23.same _ _ e_q5
    have e_p1 := A_H23.same _ _ e_p1
    have e_q6 := A_H23.same _ _ e_q6
    have e_c1 := A_H23.same _ _ e_c1
    have e_p2 := A_H23.same _ _ e_p2
    have e_c2 := A_H23.same _ _ e_c2
    have e_l6 := A_H23.same _ _ e_l6
    have e_l7 := A_H23.same _ _ e_l7
    have hL := hL.same A_H23.same
    refine ⟨_, rfl, _, rfl, a, d, _, 6, rfl, S_H23, by omega, by decide, by decide, fun H24 r6 A_H24 l_r6 u_r6 => ?_⟩
    have C_H24 : Adv a d _ H3 H24 := C_H23.trans A_H24 (Int.le_refl _)
    have S_H24 := A_H24.src _ S_H23
    have ef := A_H24.same _ _ ef
    have e_t1 := A_H24.same _ _ e_t1
    have e_t2 := A_H24.same _ _ e_t2
    have e_t3 := A_H24.same _ _ e_t3
    have e_t4 := A_H24.same _ _ e_t4
    have e_l5 := A_H24.same _ _ e_l5
    have e_q5 := A_H24.same _ _ e_q5
    have e_p1 := A_H24.same _ _ e_p1
    have e_q6 := A_H24.same _ _ e_q6
    have e_c1 := A_H24.same _ _ e_c1
    have e_p2 := A_H24.same _ _ e_p2
    have e_c2 := A_H24.same _ _ e_c2
    have e_l6 := A_H24.same _ _ e_l6
    have e_l7 := A_H24.same _ _ e_l7
    have hL := hL.same A_H24.same
    obtain ⟨j, rfl⟩ : ∃ j : Nat, rj = (j : Int) := ⟨rj.toNat, by omega⟩
    obtain ⟨v, hv, _, hat⟩ := at_val (xs := ([V.ref t1, V.ref t2, V.ref t3, V.ref t4] ++ [V.ref q5, V.ref c2])) l_r6 (show r6 < ((6 : Nat) : Int) from u_r6)
    have pick : ∃ L : Lay, LayAt (hid a d H24) v L ∧ L.seen ∧ ∀ x, v = .ref x → x ≠ f := by
      simp only [List.mem_append, List.mem_cons, List.not_mem_nil, or_false] at hv
      rcases hv with (rfl | rfl | rfl | rfl) | rfl | rfl
      · exact ⟨.con wt 0, ⟨t1, rfl, e_t1⟩, ⟨by omega, by decide⟩, fun x z => by cases z; exact g_t1⟩
      · exact ⟨.con wt x2, ⟨t2, rfl, e_t2⟩, ⟨by omega, by omega⟩, fun x z => by cases z; exact g_t2⟩
      · exact ⟨.con x3 (1 + r3), ⟨t3, rfl, e_t3⟩, ⟨by omega, by omega⟩, fun x z => by cases z; exact g_t3⟩
      · exact ⟨.con (-1) 0, ⟨t4, rfl, e_t4⟩, ⟨by decide, by decide⟩, fun x z => by cases z; exact g_t4⟩
      · exact ⟨.pol [x5], ⟨q5, rfl, e_q5⟩, ⟨by show 1 ≤ 60; decide, fun x hx => by rw [List.mem_singleton.mp hx]; omega⟩, fun x z => by cases z; exact g_q5⟩
      · refine ⟨.pol (w1 ++ [x6] ++ w2), ⟨c2, rfl, ?_⟩, ⟨by rw [List.length_append, List.length_append, List.length_singleton]; omega, fun x hx => ?_⟩, fun x z => by cases z; exact g_c2⟩
        · rw [e_c2, List.map_append, List.map_append]; rfl
        · rcases List.mem_append.mp hx with z | z
          · rcases List.mem_append.mp z with z | z
            · have := b_w1 x z; omega
            · rw [List.mem_singleton.mp z]; omega
          · have := b_w2 x z; omega
    obtain ⟨L, lv, sv, nv⟩ := pick
    refine ⟨l7, _, r6, v, rfl, rfl, sql (hid_get e_l7).1, hat, ?_⟩
    refine ⟨f, _, _, _, rfl, rfl, (hid_get ef).1, size_lt (by omega), l_rj, by omega, ?_⟩
    rw [Int.toNat_natCast]
    refine ⟨us.take j ++ [v] ++ us.drop j, Ls.take j ++ [L] ++ Ls.drop j, _, _, _, rfl, ((A3.trans C_H24 (Int.le_refl _)).mut hS hf).mono (by omega), by rw [hid_oth nf.1 nf.2, upd_same], ?_, ?_, ?_, ?_⟩
    · refine Lays.carry (((hL.take j).app (Lays.cons lv (Lays.none _))).app (hL.drop j)) fun x ob hx e => ?_
      rw [hid_oth nf.1 nf.2, upd_ne ?_]
      · exact e
      · exact ins_ne hne nv hx
    · have := congrArg List.length (List.take_append_drop j Ls)
      rw [List.length_append] at this
      rw [List.length_append, List.length_append, List.length_singleton]
      omega
    · exact fun x hx => ins_ne hne nv hx
    · intro M hM
      rcases List.mem_append.mp hM with z | z
      · rcases List.mem_append.mp z with z | z
        · exact hsn M (List.mem_of_mem_take z)
        · rw [List.mem_singleton.mp z]; exact sv
      · exact hsn M (List.mem_of_mem_drop z)
  · obtain ⟨us, Ls, y3, y4, y5, rfl, A3, ef, hL, hz, hne, hsn⟩ := h
    refine ⟨_, rfl, _, rfl, f, _, rfl, sql (hid_get ef).1, fun r hr' => ?_⟩
    rw [show cutV us none (some 8) = us.take 8 from cut_n us 8]
    have S3 := A3.src _ hS
    have nr := S3.new1 hr'
    refine q _ r (us.take 8) (Ls.take 8) ((A3.trans (Adv.of (same_new hr')) (Int.le_refl _)).mono (by omega)) (A3.free hS hr') (by rw [hid_oth nr.1 nr.2, upd_same]) ((hL.take 8).same (hid_same (same_new hr'))) ?_ fun x hx => hsn x (List.mem_of_mem_take hx)
    rw [List.length_take]
    omega

end
end Rn
namespace Rn
open PySem PySem.Spec PyProof.Rows L2
section
variable {P : Program} {w : World} {K : PySem.W.Frag} {mg : Str → Option Value} {base : Heap}
def sp_law_first_bad (K : PySem.W.Frag) : Sp := fun vs H Q _ => ∃ (a : Addr) (Ls : List Lay), vs = [.ref a] ∧ NestAt H a Ls ∧ (∀ ns, Lay.pol ns ∈ Ls → ns.length ≤ 10000) ∧ ∀ H', Same H H' → Q (badV Ls) H'
theorem pol_filt (ns : List Int) : (!decide (ns.filter (fun x => decide (x < 0)) = [])) = !(Lay.pol ns).ok := by
  rw [Lay.ok_pol]
  congr 1
  rw [Bool.eq_iff_iff, decide_eq_true_eq, List.filter_eq_nil_iff, List.all_eq_true]
  refine forall_congr' fun x => forall_congr' fun _ => ?_
  rw [decide_eq_true_eq, decide_eq_true_eq]
  exact Int.not_lt
theorem con_ok (w n : Int) : (Lay.con w n).ok = (Lay.pol [w, n - 1]).ok := by
  rw [Lay.ok_con, Lay.ok_pol]
  show _ = (decide (0 ≤ w) && (decide (0 ≤ n - 1) && true))
  rw [Bool.and_true]
  congr 1
  exact decide_eq_decide.mpr (by omega)
theorem ok_law_first_bad (T : Txt P K mg) : FnOk P w K mg base CX0 1 T.f_law_first_bad T.d_law_first_bad ["layers"] (sp_law_first_bad K) := by
  refine T.F_law_first_bad.ok sc_law_first_bad (fun vs H Q E h => ?_) (fun cdv A outer s H vs Q E hr h => ?_)
  · obtain ⟨a, Ls, rfl, _⟩ := h
    rfl
  obtain ⟨a, Ls, rfl, hN, hp, q⟩ := h
  refine ⟨_, (pss_cons (ps_for PassesOwn.never rfl (pi_enum (by rfl) T.m_enumerate (pa_cons (pv 0) pa_nil)) (pg_tup rfl (pgs_cons (pg_name (i := 1) sc_law_first_bad.nd rfl (Or.inl rfl)) (pgs_cons (pg_name (i := 2) sc_law_first_bad.nd rfl (Or.inl rfl)) pgs_nil)))
      (pss_cons (ps_set (i := 3) sc_law_first_bad.nd rfl (Or.inl rfl) (pe_ifExp (pt_val (pe_callB call_isi (by rfl) T.m_isinstance (by decide +kernel) (pa_cons (pv 2) (pa_cons (pe_bltn (v := .ty "tuple") (by rfl) T.m_tuple (by decide +kernel) rfl) pa_nil)))) (pe_lst (pa_cons (pe_ix ix_tup (pv 2) pe_int (fun _ _ => rfl)) (pa_cons (pe_op op_sub (pe_ix ix_tup (pv 2) pe_int (fun _ _ => rfl)) pe_int) pa_nil))) (pv 2)))
      (pss_one (ps_if (pt_cmpR (op_neD hr.units) (pe_lc (own := [("number", 4)]) (g := gName 4)  rfl sc_law_first_bad.nd (pi_list (pv 3)) (blkOk_by (N := ["layers", "index", "part", "numbers", "number"]) (sc := defScope s_law_first_bad) (by decide +kernel)) (fun _ _ _ _ _ => (pg_name (i := 4) sc_law_first_bad.nd rfl (Or.inl rfl))) (fun _ _ _ _ _ => (pts_one (pt_cmpR op_lt (pv 4) pe_int (nomark _)))) (fun _ _ _ _ _ => (pv 4))) (pe_lst pa_nil) (nomark _))
      (pss_one (ps_ret (pv 1)))
      pss_nil))))
      (pss_one (ps_ret pe_non))), ?_⟩
  obtain ⟨vs, hv, hl, hat⟩ := id hN
  refine ⟨.ref a, rfl, a, vs, rfl, sql hv, for_enum (fun i σ H' => (∃ y1 y2 y3 y4, σ = [some (.ref a), y1, y2, y3, y4]) ∧ Same H H' ∧ ∀ j : Nat, j < i → ∀ L, Ls[j]? = some L → L.ok = true) ⟨⟨none, none, none, none, rfl⟩, Same.refl H, fun j hj => absurd hj (Nat.not_lt_zero j)⟩ (fun i σ H' _ h => h.2.1.seq (sql hv)) (fun i x σ H' t hx h nt => ?_) (fun σ H' h => ?_)⟩
  · obtain ⟨⟨y1, y2, y3, y4, rfl⟩, sm, hn⟩ := h
    have hi : i < Ls.length := by
      rw [← hl]
      exact (List.getElem?_eq_some_iff.mp hx).1
    have hi2 := List.getElem?_eq_getElem hi
    have hpl : ∀ ns, Ls[i] = .pol ns → ns.length ≤ 10000 := fun ns e => hp ns (e ▸ List.getElem_mem hi)
    have sm1 := sm.trans (same_new (o := .tup [.int (i : Nat), x]) nt)
    refine ⟨t, _, rfl, sqt upd_same, rfl, _, _, rfl, _, _, rfl, rfl, ?_⟩
    generalize upd H' t (.tup [.int (i : Nat), x]) = H1 at *
    have lay := (hat i x _ hx hi2).same sm1
    have good : Ls[i].ok = true → ∀ j : Nat, j < i + 1 → ∀ L, Ls[j]? = some L → L.ok = true := fun e j hj L hL => by
      by_cases ej : j = i
      · subst ej
        rw [hi2] at hL
        cases hL
        exact e
      · exact hn j (by omega) L hL
    have bad : Ls[i].ok = false → ∀ H2, Same H1 H2 → Q (.int (i : Nat)) H2 := fun e H2 s2 => by
      have := q H2 (sm1.trans s2)
      rw [badV_some (badAt_first hi e hn)] at this
      exact this
    generalize Ls[i] = L at *
    cases L with
    | con wt n =>
      obtain ⟨p, rfl, hp⟩ := lay
      refine ⟨_, rfl, _, _, _, _, true, rfl, .ty "tuple", .base (.tup hp), kit_ty (by decide +kernel), true, rfl, iteT ?_⟩
      refine ⟨_, rfl, p, _, 0, .int wt, rfl, rfl, sqt hp, rfl, _, rfl, p, _, 1, .int n, rfl, rfl, sqt hp, rfl, _, _, rfl, rfl, size_le (by show 2 ≤ 100000; decide), fun f hf => ?_⟩
      have sf := same_new (o := .lst [.int wt, .int (n - 1)]) hf
      have ef : upd H1 f (.lst [.int wt, .int (n - 1)]) f = some (.lst (([wt, n - 1] : List Int).map V.int)) := upd_same
      generalize upd H1 f (.lst [.int wt, .int (n - 1)]) = H2 at *
      refine ⟨_, rfl, f, rfl, ⟨_, sql ef⟩, fun D hD => ?_⟩
      refine lc_filtL (ns := [wt, n - 1]) (fun x => decide (x < 0)) V.int hD (sql ef) (by show 2 ≤ 50000; decide) (fun j z H3 TT FF hz s3 hT hF => ?_) (fun H3 s3 hd3 => ?_)
      · exact ⟨rfl, _, rfl, _, _, rfl, rfl, _, rfl, ite2 (fun e => ⟨_, rfl, hT e⟩) (fun e => hF (Bool.eq_false_iff.mpr e))⟩
      · refine ⟨Nat.zero_le _, fun o ho => ?_⟩
        have so := same_new (o := .lst []) ho
        refine ⟨_, _, dp_ints (sql (so _ _ hd3)), dp_nil (sql upd_same), shaped_ints _, shaped_ints _, _, rfl, ?_⟩
        rw [eqv_ints, pol_filt, ← con_ok]
        cases e : (Lay.con wt n).ok with
        | true => exact iteF ⟨⟨_, _, _, _, rfl⟩, sm1.trans (sf.trans (s3.trans so)), good e⟩
        | false => exact iteT ⟨_, rfl, bad e _ (sf.trans (s3.trans so))⟩
    | pol ns =>
      obtain ⟨p, rfl, hp⟩ := lay
      have l1 := hpl ns rfl
      refine ⟨_, rfl, _, _, _, _, false, rfl, .ty "tuple", .base (.lst hp), kit_ty (by decide +kernel), false, rfl, iteF ?_⟩
      refine ⟨_, rfl, _, rfl, p, rfl, ⟨_, sql hp⟩, fun D hD => ?_⟩
      refine lc_filtL (ns := ns) (fun x => decide (x < 0)) V.int hD (sql hp) (by omega) (fun j z H3 TT FF hz s3 hT hF => ?_) (fun H3 s3 hd3 => ?_)
      · exact ⟨rfl, _, rfl, _, _, rfl, rfl, _, rfl, ite2 (fun e => ⟨_, rfl, hT e⟩) (fun e => hF (Bool.eq_false_iff.mpr e))⟩
      · refine ⟨Nat.zero_le _, fun o ho => ?_⟩
        have so := same_new (o := .lst []) ho
        refine ⟨_, _, dp_ints (sql (so _ _ hd3)), dp_nil (sql upd_same), shaped_ints _, shaped_ints _, _, rfl, ?_⟩
        rw [eqv_ints, pol_filt]
        cases e : (Lay.pol ns).ok with
        | true => exact iteF ⟨⟨_, _, _, _, rfl⟩, sm1.trans (s3.trans so), good e⟩
        | false => exact iteT ⟨_, rfl, bad e _ (s3.trans so)⟩
  · obtain ⟨⟨y1, y2, y3, y4, rfl⟩, sm, hn⟩ := h
    have := q H' sm
    rw [badV_none (badAt_all fun L hL => ?_)] at this
    · exact this
    · obtain ⟨j, hj, e⟩ := List.getElem_of_mem hL
      exact hn j (by rw [hl]; exact hj) L (by rw [← e]; exact List.getElem?_eq_getElem hj)

end
end Rn
namespace Rn
open PySem PySem.Spec PyProof.Rows L2
section
variable {P : Program} {w : World} {K : PySem.W.Frag} {mg : Str → Option Value} {base : Heap}
theorem low_is (us : List Int) : (((List.range us.length).map fun i : Nat => (0 : Int) + (i : Int)).filter fun z => decide (us.getD z.toNat 0 < 0)).head? = (negF us).map fun i : Nat => (i : Int) := by
  rw [List.filter_map, List.head?_map, List.head?_filter]
  have ev : ∀ i : Nat, ((fun z : Int => decide (us.getD z.toNat 0 < 0)) ∘ fun i : Nat => (0 : Int) + (i : Int)) i = decide (us.getD i 0 < 0) := fun i => by
    show decide (us.getD ((0 : Int) + (i : Int)).toNat 0 < 0) = _
    rw [show ((0 : Int) + (i : Int)).toNat = i by omega]
  have gd : ∀ i : Nat, ∀ h : i < us.length, us.getD i 0 = us[i] := fun i h => by rw [List.getD_eq_getElem?_getD, List.getElem?_eq_getElem h]; rfl
  unfold negF
  cases e : us.findIdx? (fun x => decide (x < 0)) with
  | none =>
    rw [List.findIdx?_eq_none_iff] at e
    rw [List.find?_eq_none.mpr fun i hi => by
      have := List.mem_range.mp hi
      rw [ev, gd i this, e _ (List.getElem_mem this)]
      decide]
    rfl
  | some j =>
    rw [List.findIdx?_eq_some_iff_getElem] at e
    obtain ⟨h1, h2, h3⟩ := e
    rw [List.find?_range_eq_some.mpr ⟨by rw [ev, gd j h1]; exact h2, List.mem_range.mpr h1, fun i hi => by rw [ev, gd i (by omega)]; have := h3 i hi; simpa using this⟩]
    show some ((0 : Int) + (j : Int)) = some (j : Int)
    rw [Int.zero_add]
def sp_law_due (K : PySem.W.Frag) : Sp := fun vs H Q _ => ∃ (door : Int) (x y : V) (due : PyData), vs = [.int door, x, y] ∧ Door H door x y due ∧ ∀ H' v, Same H H' → RE H' v due → Q v H'
theorem ok_law_due (T : Txt P K mg) : FnOk P w K mg base CX0 2 T.f_law_due T.d_law_due ["door", "one", "other"] (sp_law_due K) := by
  have G_law_first_bad := ok_law_first_bad (P := P) (w := w) (base := base) T
  have G_law_total := ok_law_total (P := P) (w := w) (base := base) T
  refine T.F_law_due.ok sc_law_due (fun vs H Q E h => ?_) (fun cdv A outer s H vs Q E hr h => ?_)
  · obtain ⟨door, x, y, due, rfl, _⟩ := h
    rfl
  obtain ⟨door, x, y, due, rfl, hd, q⟩ := h
  refine ⟨_, (pss_cons (ps_if (pt_cmpR op_eq (pv 0) pe_int (nomark _))
      (pss_cons (ps_for PassesOwn.never rfl (pi_list (pe_lst (pa_cons (pv 1) (pa_cons (pv 2) pa_nil)))) (pg_name (i := 3) sc_law_due.nd rfl (Or.inr rfl))
      (pss_one (ps_if (pt_cmpR (op_neD hr.units) (pe_lc (own := [("wait", 6)]) (g := gName 6)  rfl sc_law_due.nd (pi_list (pv 3)) (blkOk_by (N := ["door", "one", "other", "some", "total", "bad", "wait", "k"]) (sc := defScope s_law_due) (by decide +kernel)) (fun _ _ _ _ _ => (pg_name (i := 6) sc_law_due.nd rfl (Or.inl rfl))) (fun _ _ _ _ _ => (pts_one (pt_cmpR op_lt (pv 6) pe_int (nomark _)))) (fun _ _ _ _ _ => (pv 6))) (pe_lst pa_nil) (nomark _))
      (pss_one (ps_ret (pe_lst (pa_cons pe_str (pa_cons (pe_ix ix_list (pe_lc (own := [("k", 7)]) (g := gName 7)  rfl sc_law_due.nd (pi_range1 (by rfl) T.m_range (pa_cons (pe_callB call_len_seq (by rfl) T.m_len PySem.boot_len (pa_cons (pv 3) pa_nil)) pa_nil)) (blkOk_by (N := ["door", "one", "other", "some", "total", "bad", "wait", "k"]) (sc := defScope s_law_due) (by decide +kernel)) (fun _ _ _ _ _ => (pg_name (i := 7) sc_law_due.nd rfl (Or.inl rfl))) (fun _ _ _ _ _ => (pts_one (pt_cmpR op_lt (pe_ix (ix_listK (K := K) rfl) (pv 3) (pv 7) (fun _ _ => rfl)) pe_int (nomark _)))) (fun _ _ _ _ _ => (pv 7))) pe_int (fun _ _ => rfl)) (pa_cons pe_bl pa_nil))))))
      pss_nil)))
      (pss_one (ps_set (i := 4) sc_law_due.nd rfl (Or.inl rfl) (pe_op op_mul (pe_op op_add (pe_callB call_len_seq (by rfl) T.m_len PySem.boot_len (pa_cons (pv 1) pa_nil)) pe_int) (pe_op op_add (pe_callB call_len_seq (by rfl) T.m_len PySem.boot_len (pa_cons (pv 2) pa_nil)) pe_int)))))
      (pss_cons (ps_set (i := 5) sc_law_due.nd rfl (Or.inl rfl) (pe_call G_law_first_bad hr (by rfl) T.g_law_first_bad T.F_law_first_bad.kp T.b_law_first_bad .nil pass0 (pa_cons (pv 1) pa_nil)))
      (pss_cons (ps_if (pt_cmpR op_notN (pv 5) pe_non (nomark _))
      (pss_one (ps_ret (pe_lst (pa_cons pe_str (pa_cons (pv 5) (pa_cons pe_bl pa_nil))))))
      pss_nil)
      (pss_one (ps_set (i := 4) sc_law_due.nd rfl (Or.inl rfl) (pe_call G_law_total hr (by rfl) T.g_law_total T.F_law_total.kp T.b_law_total .nil pass0 (pa_cons (pv 1) pa_nil)))))))
      (pss_one (ps_ret (pe_ifExp (PW.pt (pw_and (pt_cmpR op_gt (pv 4) pe_int (nomark _)) (pw_and1 (pt_cmpR op_ne (pv 0) pe_int (nomark _))))) (pe_lst (pa_cons pe_str (pa_cons (pv 4) (pa_cons pe_bl pa_nil)))) pe_non)))), ?_⟩
  rcases hd with ⟨rfl, p, r, ns, ms, rfl, rfl, hp, hr', z1, z2, du⟩ | hd
  · refine ⟨_, rfl, rfl, _, rfl, int_eq (fun _ => ?_) (fun e => absurd rfl e)⟩
    have at2 : ∀ (i : Nat) (x : V), ([.ref p, .ref r] : List V)[i]? = some x → ∃ (u : Addr) (ws : List Int), x = .ref u ∧ H u = some (.lst (ws.map V.int)) ∧ ws.length ≤ 20000 ∧ ((i = 0 ∧ ws = ns) ∨ (i = 1 ∧ ws = ms)) := fun i x hx => by
      rcases i with _ | _ | i
      · cases hx; exact ⟨p, ns, rfl, hp, z1, .inl ⟨rfl, rfl⟩⟩
      · cases hx; exact ⟨r, ms, rfl, hr', z2, .inr ⟨rfl, rfl⟩⟩
      · cases hx
    refine ⟨_, rfl, _, rfl, size_le (by show 2 ≤ 100000; decide), fun l hl => ?_⟩
    have sl := same_new (o := .lst [.ref p, .ref r]) hl
    have el := upd_same (H := H) (a := l) (o := .lst [.ref p, .ref r])
    generalize upd H l (.lst [.ref p, .ref r]) = H1 at *
    refine ⟨l, rfl, ⟨_, sql el⟩, for_list (xs := [.ref p, .ref r]) (fun i σ H' => (∃ y3 y4 y5 y6 y7, σ = [some (.int 0), some (.ref p), some (.ref r), y3, y4, y5, y6, y7]) ∧ Same H1 H' ∧ (0 < i → negF ns = none) ∧ (1 < i → negF ms = none))
      ⟨⟨_, _, _, _, _, rfl⟩, Same.refl _, fun h => absurd h (by omega), fun h => absurd h (by omega)⟩ (fun i σ H' _ h => sql (h.2.1 _ _ el)) (fun i x σ H' hx h => ?_) (fun σ H' h => ?_)⟩
    · obtain ⟨⟨y3, y4, y5, y6, y7, rfl⟩, sm, n0, n1⟩ := h
      obtain ⟨u, us, rfl, hu, lus, who⟩ := at2 i x hx
      have hu' := (sl.trans sm) _ _ hu
      have due0 : ∀ k : Nat, negF us = some k → due = errD "InvalidWait" (k : Nat) := fun k e => by
        rw [du]
        unfold nestErr
        rcases who with ⟨_, rfl⟩ | ⟨rfl, rfl⟩
        · rw [e]
        · rw [n0 (by omega), e]
      have go0 : negF us = none → (0 < i + 1 → negF ns = none) ∧ (1 < i + 1 → negF ms = none) := fun e => by
        rcases who with ⟨rfl, rfl⟩ | ⟨rfl, rfl⟩
        · exact ⟨fun _ => e, fun h => absurd h (by omega)⟩
        · exact ⟨fun _ => n0 (by omega), fun _ => e⟩
      refine ⟨_, rfl, u, rfl, ⟨_, sql hu'⟩, fun D hD => ?_⟩
      refine lc_filtL (ns := us) (fun x => decide (x < 0)) V.int hD (sql hu') (by omega) (fun j z H3 TT FF hz s3 hT hF => ?_) (fun H3 s3 hd3 => ?_)
      · exact ⟨rfl, _, rfl, _, _, rfl, rfl, _, rfl, ite2 (fun e => ⟨_, rfl, hT e⟩) (fun e => hF (Bool.eq_false_iff.mpr e))⟩
      · refine ⟨Nat.zero_le _, fun o ho => ?_⟩
        have so := same_new (o := .lst []) ho
        refine ⟨_, _, dp_ints (sql (so _ _ hd3)), dp_nil (sql upd_same), shaped_ints _, shaped_ints _, _, rfl, ?_⟩
        rw [eqv_ints]
        generalize upd H3 o (.lst []) = H4 at *
        have s4 := s3.trans so
        cases en : negF us with
        | none =>
          have e0 : us.filter (fun x => decide (x < 0)) = [] := List.filter_eq_nil_iff.mpr fun x hx => by
            have := List.findIdx?_eq_none_iff.mp en x hx
            rw [this]
            decide
          rw [decide_eq_true e0]
          exact iteF ⟨⟨_, _, _, _, _, rfl⟩, sm.trans s4, (go0 en).1, (go0 en).2⟩
        | some k =>
          have e0 : us.filter (fun x => decide (x < 0)) ≠ [] := fun z => by
            have h1 := List.filter_eq_nil_iff.mp z
            have h2 := List.findIdx?_eq_some_iff_getElem.mp en
            obtain ⟨h3, h4, _⟩ := h2
            exact h1 _ (List.getElem_mem h3) h4
          rw [decide_eq_false e0]
          refine iteT ?_
          have hu4 := s4 _ _ hu'
          refine ⟨_, rfl, u, _, rfl, .inl (sql hu4), _, rfl, by omega, by rw [List.length_map]; omega, fun D2 hD2 => ?_⟩
          refine lc_filter (lo := 0) (n := _) (fun z => decide (us.getD z.toNat 0 < 0)) hD2 (by rw [List.length_map]; omega) (fun j H7 TT FF hj sm7 hT hF => ?_) (fun H7 s7 hd7 => ?_)
          · have hj' : j < us.length := by rw [List.length_map] at hj; omega
            have g1 : atI (us.map V.int) ((0 : Int) + (j : Int)) = some (.int (us.getD ((0 : Int) + (j : Int)).toNat 0)) := by
              rw [show (0 : Int) + (j : Int) = ((j : Nat) : Int) by omega, Int.toNat_natCast]
              refine atI_nat ?_
              rw [List.getElem?_map, List.getD_eq_getElem?_getD, List.getElem?_eq_getElem hj']
              rfl
            exact ⟨rfl, _, rfl, _, rfl, u, _, _, _, rfl, rfl, sql (sm7 _ _ hu4), g1, _, _, rfl, rfl, _, rfl, ite2 (fun e => ⟨_, rfl, hT e⟩) (fun e => hF (Bool.eq_false_iff.mpr e))⟩
          have ll : ((((us.map V.int).length : Nat) : Int)).toNat = us.length := by rw [List.length_map, Int.toNat_natCast]
          rw [ll] at hd7
          have lowh := low_is us
          generalize ((List.range us.length).map fun i : Nat => (0 : Int) + (i : Int)).filter (fun z => decide (us.getD z.toNat 0 < 0)) = low at *
          rw [en] at lowh
          cases low with
          | nil => cases lowh
          | cons z rest =>
            obtain rfl : z = (k : Int) := Option.some.inj lowh
            refine ⟨D2, _, 0, .int (k : Nat), rfl, rfl, sql hd7, atI_nat (show (List.map V.int ((k : Int) :: rest))[0]? = some (V.int (k : Nat)) from rfl), size_le (by show 3 ≤ 100000; decide), fun t ht => ?_⟩
            have st := same_new (o := .lst [.str "InvalidWait", .int (k : Nat), .bl true]) ht
            exact q _ _ ((((sl.trans sm).trans s4).trans s7).trans st) (.inr ⟨t, _, _, rfl, due0 k en, upd_same⟩)
    · obtain ⟨⟨y3, y4, y5, y6, y7, rfl⟩, sm, n0, n1⟩ := h
      have s1 := sl.trans sm
      have n0 := n0 (by show 0 < 2; decide)
      have n1 := n1 (by show 1 < 2; decide)
      have a1 : ((ns.map V.int).length : Int) = ns.length := by rw [List.length_map]
      have a2 : ((ms.map V.int).length : Int) = ms.length := by rw [List.length_map]
      refine ⟨_, rfl, p, _, rfl, .inl (sql (s1 _ _ hp)), _, _, rfl, rfl, _, rfl, r, _, rfl, .inl (sql (s1 _ _ hr')), _, _, rfl, rfl, _, _, rfl, rfl, .inl ⟨by rw [a1]; omega, by rw [a1]; omega⟩, ?_⟩
      rw [a1, a2]
      have du' : due = sizeErr (((ns.length : Int) + 1) * ((ms.length : Int) + 1)) := by
        rw [du]
        unfold nestErr
        rw [n0, n1]
      refine ⟨_, rfl, _, _, rfl, rfl, _, rfl, ite2 (fun e => ?_) (fun e => iteF ?_)⟩
      · have big := of_decide_eq_true e
        refine ⟨_, rfl, rfl, _, rfl, int_ne (fun _ => ?_) (fun z => absurd z (by decide))⟩
        refine ⟨_, rfl, size_le (by show 3 ≤ 100000; decide), fun t ht => q _ _ (s1.trans (same_new ht)) ?_⟩
        rw [du']
        unfold sizeErr
        rw [if_pos big]
        exact .inr ⟨t, _, _, rfl, rfl, upd_same⟩
      · have small := of_decide_eq_false (Bool.eq_false_iff.mpr e)
        refine q _ _ s1 ?_
        rw [du']
        unfold sizeErr
        rw [if_neg small]
        exact .inl ⟨rfl, rfl⟩
  · have two : (door = 1 ∨ door = 2) ∧ ∃ (a : Addr) (Ls : List Lay), x = .ref a ∧ NestAt H a Ls ∧ Ls.length ≤ 5000 ∧ (∀ L ∈ Ls, L.seen) ∧ (∀ i : Nat, badAt Ls = some i → due = errD "InvalidLayer" (i : Nat)) ∧ (badAt Ls = none → due = if door = 1 then .none else sizeErr (attOf Ls)) := by
      rcases hd with ⟨rfl, a, Ls, rfl, h1, h2, h3, du⟩ | ⟨rfl, a, Ls, rfl, h1, h2, h3, du⟩
      · exact ⟨.inl rfl, a, Ls, rfl, h1, h2, h3, fun i e => by rw [du]; unfold attErr; rw [e], fun e => by rw [du]; unfold attErr; rw [e]; rfl⟩
      · exact ⟨.inr rfl, a, Ls, rfl, h1, h2, h3, fun i e => by rw [du]; unfold flatErr; rw [e], fun e => by rw [du]; unfold flatErr; rw [e]; rfl⟩
    clear hd
    obtain ⟨hdoor, a, Ls, rfl, hN, hz, hs, dI, dN⟩ := two
    refine ⟨_, rfl, rfl, _, rfl, int_eq (fun e => absurd e (by omega)) (fun _ => ?_)⟩
    refine ⟨_, rfl, a, Ls, rfl, hN, (fun ns hm => Nat.le_trans (seen_pol hs hm) (by decide)), fun H1 s1 => ?_⟩
    cases hb : badAt Ls with
    | some i =>
      rw [badV_some hb]
      refine ⟨_, rfl, rfl, _, rfl, iteT ?_⟩
      refine ⟨_, rfl, size_le (by show 3 ≤ 100000; decide), fun t ht => q _ _ (s1.trans (same_new ht)) ?_⟩
      rw [dI i hb]
      exact .inr ⟨t, _, _, rfl, rfl, upd_same⟩
    | none =>
      rw [badV_none hb]
      refine ⟨_, rfl, rfl, _, rfl, iteNS rfl ?_⟩
      refine ⟨_, rfl, a, Ls, rfl, hN.same s1, (fun L hL => ⟨badAt_none hb L hL, seen_cnt (hs L hL)⟩), hz, ?_⟩
      have du' := dN hb
      refine ⟨_, rfl, _, _, rfl, rfl, _, rfl, ite2 (fun e => ?_) (fun e => iteF ?_)⟩
      · have big := of_decide_eq_true e
        refine ⟨_, rfl, rfl, _, rfl, int_ne (fun n1 => ?_) (fun e1 => ?_)⟩
        · refine ⟨_, rfl, size_le (by show 3 ≤ 100000; decide), fun t ht => q _ _ (s1.trans (same_new ht)) ?_⟩
          rw [du', if_neg n1]
          unfold sizeErr
          rw [if_pos big]
          exact .inr ⟨t, _, _, rfl, rfl, upd_same⟩
        · refine q _ _ s1 ?_
          rw [du', if_pos e1]
          exact .inl ⟨rfl, rfl⟩
      · have small := of_decide_eq_false (Bool.eq_false_iff.mpr e)
        refine q _ _ s1 ?_
        rw [du']
        unfold sizeErr
        rw [if_neg small]
        split <;> exact .inl ⟨rfl, rfl⟩

end
end Rn
namespace Rn
open PySem PySem.Spec PyProof.Rows L2
section
variable {P : Program} {w : World} {K : PySem.W.Frag} {mg : Str → Option Value} {base : Heap}
theorem con_okL {w n : Int} (h0 : 0 ≤ w) (h1 : 1 ≤ n) : ∀ L ∈ [Lay.con w n], L.ok = true := fun L hL => by
  rw [List.mem_singleton.mp hL, Lay.ok_con, decide_eq_true h0, decide_eq_true h1]
  rfl
theorem seen_two {L M : Lay} (h : L.seen) (h2 : M.seen) : ∀ N ∈ [L, M], N.seen := fun N hN => by
  simp only [List.mem_cons, List.not_mem_nil, or_false] at hN
  rcases hN with rfl | rfl <;> assumption
theorem seen_three {L M O : Lay} (h : L.seen) (h2 : M.seen) (h3 : O.seen) : ∀ N ∈ [L, M, O], N.seen := fun N hN => by
  simp only [List.mem_cons, List.not_mem_nil, or_false] at hN
  rcases hN with rfl | rfl | rfl <;> assumption
def sp_law_two_errors (K : PySem.W.Frag) : Sp := fun vs H Q _ => ∃ (a d : Addr) (n : Int), vs = [.ref a] ∧ Src H a d n ∧ n ≤ 10000000000000 ∧
  ∀ H' r us, Adv a d 1000 H H' → H r = none → hid a d H' r = some (.lst us) → us.length = 5 → (∀ v ∈ us, Asked (hid a d H') v) → Q (.ref r) H'
theorem ok_law_two_errors (T : Txt P K mg) : FnOk P w K mg base CX0 6 T.f_law_two_errors T.d_law_two_errors ["source"] (sp_law_two_errors K) := by
  have G_law_draw := (ok_law_draw (P := P) (w := w) (base := base) T).mono (by decide : 1 ≤ 5)
  have G_law_wait_drawn := (ok_law_wait_drawn (P := P) (w := w) (base := base) T).mono (by decide : 2 ≤ 5)
  have G_law_below := (ok_law_below (P := P) (w := w) (base := base) T).mono (by decide : 2 ≤ 5)
  have G_flatten := ok_flatten0 (P := P) (w := w) (base := base) T
  refine T.F_law_two_errors.ok sc_law_two_errors (fun vs H Q E h => ?_) (fun cdv A outer s H vs Q E hr h => ?_)
  · obtain ⟨a, d, n, rfl, _⟩ := h
    rfl
  obtain ⟨a, d, n, rfl, hS, hn, q⟩ := h
  refine ⟨_, (pss_cons (ps_setLc (i := 1) (own := [("time", 2)]) (g := gName 2) (tt := tYes) rfl sc_law_two_errors.nd rfl rfl (sw_true rfl rfl rfl (by decide +kernel)) (pi_range1 (by rfl) T.m_range (pa_cons pe_int pa_nil)) (blkOk_by (N := ["source", "bad", "time", "large", "found"]) (sc := defScope s_law_two_errors) (by decide +kernel)) (fun _ _ _ _ _ => (pg_name (i := 2) sc_law_two_errors.nd rfl (Or.inl rfl))) (fun _ _ _ _ _ => pts_nil) (fun _ _ _ _ _ => (pe_call G_law_wait_drawn hr (by rfl) T.g_law_wait_drawn T.F_law_wait_drawn.kp T.b_law_wait_drawn .nil pass0 (pa_cons (pv 0) pa_nil))))
      (pss_cons (ps_for PassesOwn.never rfl (pi_range1 (by rfl) T.m_range (pa_cons (pe_op op_add pe_int (pe_call G_law_draw hr (by rfl) T.g_law_draw T.F_law_draw.kp T.b_law_draw .nil pass0 (pa_cons (pv 0) (pa_cons pe_int pa_nil)))) pa_nil)) (pg_name (i := 2) sc_law_two_errors.nd rfl (Or.inl rfl))
      (pss_one (ps_expr (pe_bm PySem.F.plainAttrs_list PySem.F.slot_list_insert PySem.F.type_list_insert mt_insert (pv 1) (pa_cons (pe_call G_law_draw hr (by rfl) T.g_law_draw T.F_law_draw.kp T.b_law_draw .nil pass0 (pa_cons (pv 0) (pa_cons (pe_op op_add (pe_callB call_len_seq (by rfl) T.m_len PySem.boot_len (pa_cons (pv 1) pa_nil)) pe_int) pa_nil))) (pa_cons (pe_call G_law_below hr (by rfl) T.g_law_below T.F_law_below.kp T.b_law_below .nil pass0 (pa_cons (pv 0) pa_nil)) pa_nil))))))
      (pss_cons (ps_set (i := 3) sc_law_two_errors.nd rfl (Or.inl rfl) (pe_call G_flatten hr (by rfl) T.g_flatten T.F_flatten.kp T.b_flatten .nil pass0 (pa_cons (pe_lst (pa_cons (pe_tup (pa_cons (pe_call G_law_wait_drawn hr (by rfl) T.g_law_wait_drawn T.F_law_wait_drawn.kp T.b_law_wait_drawn .nil pass0 (pa_cons (pv 0) pa_nil)) (pa_cons (pe_op op_add pe_int (pe_call G_law_draw hr (by rfl) T.g_law_draw T.F_law_draw.kp T.b_law_draw .nil pass0 (pa_cons (pv 0) (pa_cons pe_int pa_nil)))) pa_nil))) pa_nil)) pa_nil)))
      (pss_cons (ps_set (i := 4) sc_law_two_errors.nd rfl (Or.inl rfl) (pe_lst (pa_cons (pe_tup (pa_cons pe_int (pa_cons (pv 3) (pa_cons (pv 1) pa_nil)))) (pa_cons (pe_tup (pa_cons pe_int (pa_cons (pv 1) (pa_cons (pv 3) pa_nil)))) (pa_cons (pe_tup (pa_cons pe_int (pa_cons (pe_lst (pa_cons (pe_tup (pa_cons pe_int (pa_cons (pe_op op_pow pe_int pe_int) pa_nil))) (pa_cons (pe_lst (pa_cons pe_int (pa_cons (pe_un un_neg pe_int) pa_nil))) pa_nil))) (pa_cons pe_non pa_nil)))) pa_nil)))))
      (pss_one (ps_ret (pe_op op_cat (pv 4) (pe_lst (pa_cons (pe_tup (pa_cons pe_int (pa_cons (pe_lst (pa_cons (pe_tup (pa_cons pe_int (pa_cons (pe_op op_pow pe_int pe_int) pa_nil))) (pa_cons (pe_tup (pa_cons pe_int (pa_cons pe_int pa_nil))) (pa_cons (pe_tup (pa_cons (pe_un un_neg pe_int) (pa_cons (pe_op op_pow pe_int pe_int) pa_nil))) pa_nil)))) (pa_cons pe_non pa_nil)))) (pa_cons (pe_tup (pa_cons pe_int (pa_cons (pe_lst (pa_cons (pe_tup (pa_cons pe_int (pa_cons (pe_op op_pow pe_int pe_int) pa_nil))) (pa_cons (pe_lst (pa_cons (pe_un un_neg pe_int) (pa_cons pe_int pa_nil))) pa_nil))) (pa_cons pe_non pa_nil)))) pa_nil)))))))))), ?_⟩
  refine ⟨_, rfl, by decide, by decide, fun D hD => ?_⟩
  have nD := hS.new1 hD
  refine lc_range (lo := 0) (n := _) (fun i H' => ∃ ks : List Int, hid a d H' D = some (.lst (ks.map V.int)) ∧ ks.length = i ∧ (∀ x ∈ ks, -1000000000000 < x ∧ x < 1000000000000) ∧ Adv a d (4 * i) H H')
    ⟨[], by rw [hid_oth nD.1 nD.2, upd_same]; rfl, rfl, (fun _ z => nomatch z), (Adv.of (same_new hD)).mono (by omega)⟩ (fun i H2 hi h => ?_) (fun H2 h => ?_)
  · obtain ⟨ks, hk, hkl, hkb, A2⟩ := h
    have S2 := A2.src n hS
    have hi' : i < 57 := by omega
    refine ⟨rfl, _, rfl, a, d, _, rfl, S2, by omega, fun H3 x A3 l3 u3 => ?_⟩
    have hk3 := A3.same _ _ hk
    refine ⟨_, (hid_get hk3).1, size_lt (by rw [List.length_map]; omega), ks ++ [x], ?_, by rw [List.length_append, hkl]; rfl, ?_, ?_⟩
    · rw [hid_oth nD.1 nD.2, upd_same, List.map_append]
      rfl
    · intro y hy
      rcases List.mem_append.mp hy with z | z
      · exact hkb y z
      · rw [List.mem_singleton.mp z]
        exact ⟨by omega, u3⟩
    · exact ((A2.trans A3 (Int.le_refl _)).mut hS hD).mono (by omega)
  obtain ⟨ks, hk, hkl, hkb, A2⟩ := h
  have S2 := A2.src n hS
  have hk57 : ks.length = 57 := hkl
  refine ⟨_, rfl, a, d, _, 2, rfl, S2, by omega, by decide, by decide, fun H3 r3 A3 l3 u3 => ⟨_, _, rfl, rfl, _, rfl, by omega, by omega, ?_⟩⟩
  refine for_range (lo := 0) (n := (1 + r3).toNat) (fun i σ H' => ∃ y2 zs y3 y4, σ = [some (.ref a), some (.ref D), y2, y3, y4] ∧ Adv a d (300 + 3 * i) H H' ∧ hid a d H' D = some (.lst ((zs : List Int).map V.int)) ∧ zs.length = 57 + i ∧ (∀ x ∈ zs, -1000000000000 < x ∧ x < 1000000000000))
    ⟨_, ks, _, _, rfl, (A2.trans A3 (Int.le_refl _)).mono (by omega), A3.same _ _ hk, hk57, hkb⟩ (fun i σ H4 hi h => ?_) (fun σ H20 h => ?_)
  · obtain ⟨y2, zs, y3, y4, rfl, A4, e4, hz, hzb⟩ := h
    have S4 := A4.src _ hS
    refine ⟨_, rfl, .inl ⟨rfl, _, sql (hid_get e4).1⟩, ?_⟩
    refine ⟨_, rfl, _, rfl, D, _, rfl, .inl (sql (hid_get e4).1), _, _, rfl, rfl, ?_⟩
    refine ⟨a, d, _, ((zs.map V.int).length : Int) + 1, rfl, S4, by omega, by omega, by rw [List.length_map]; omega, fun H5 r5 A5 l5 u5 => ?_⟩
    have S5 := A5.src _ S4
    refine ⟨_, rfl, a, d, _, rfl, S5, by omega, fun H6 x A6 lx ux => ?_⟩
    have e6 := A6.same _ _ (A5.same _ _ e4)
    obtain ⟨j, rfl⟩ : ∃ j : Nat, r5 = (j : Int) := ⟨r5.toNat, by omega⟩
    refine ⟨D, _, _, _, rfl, rfl, (hid_get e6).1, size_lt (by rw [List.length_map]; omega), l5, by rw [List.length_map] at u5; omega, ?_⟩
    have e7 : (zs.map V.int).take (j : Int).toNat ++ [V.int x] ++ (zs.map V.int).drop (j : Int).toNat = (zs.take j ++ [x] ++ zs.drop j).map V.int := by
      rw [Int.toNat_natCast, List.map_append, List.map_append, List.map_take, List.map_drop]
      rfl
    rw [e7]
    refine ⟨_, zs.take j ++ [x] ++ zs.drop j, _, _, rfl, ?_, ?_, ?_, fun y hy => ?_⟩
    · exact (((A4.trans A5 (Int.le_refl _)).trans A6 (Int.le_refl _)).mut hS hD).mono (by omega)
    · rw [hid_oth nD.1 nD.2, upd_same]
    · have := congrArg List.length (List.take_append_drop j zs)
      rw [List.length_append] at this
      rw [List.length_append, List.length_append, List.length_singleton]
      omega
    · rcases List.mem_append.mp hy with z | z
      · rcases List.mem_append.mp z with z | z
        · exact hzb y (List.mem_of_mem_take z)
        · rw [List.mem_singleton.mp z]
          exact ⟨lx, by omega⟩
      · exact hzb y (List.mem_of_mem_drop z)
  · obtain ⟨y2, zs, y3, y4, rfl, A20, e_D, hz, hzb⟩ := h
    have S20 := A20.src _ hS
    refine ⟨_, rfl, a, d, _, rfl, S20, by omega, fun H21 wt A_H21 l_wt u_wt => ?_⟩
    have C_H21 := A20.trans A_H21 (Int.le_refl _)
    have S_H21 := A_H21.src _ S20
    have e_D := A_H21.same _ _ e_D
    refine ⟨_, rfl, a, d, _, 9, rfl, S_H21, by omega, by first | omega | decide, by first | omega | decide, fun H22 rl A_H22 l_rl u_rl => ?_⟩
    have C_H22 := C_H21.trans A_H22 (Int.le_refl _)
    have S_H22 := A_H22.src _ S_H21
    have e_D := A_H22.same _ _ e_D
    refine ⟨_, _, rfl, rfl, size_le (by show 2 ≤ 100000; decide), fun tl htl => ?_⟩
    have nn_tl := S_H22.new1 htl
    have A_H23 : Adv a d 0 H22 (upd H22 tl (.tup [.int wt, .int (200 + rl)])) := Adv.of (same_new htl)
    have e_tl : hid a d (upd H22 tl (.tup [.int wt, .int (200 + rl)])) tl = some (.tup [.int wt, .int (200 + rl)]) := by rw [hid_oth nn_tl.1 nn_tl.2, upd_same]
    generalize upd H22 tl (.tup [.int wt, .int (200 + rl)]) = H23 at *
    have C_H23 := C_H22.trans A_H23 (Int.le_refl _)
    have S_H23 := A_H23.src _ S_H22
    have e_D := A_H23.same _ _ e_D
    refine ⟨size_le (by show 1 ≤ 100000; decide), fun ll hll => ?_⟩
    have nn_ll := S_H23.new1 hll
    have A_H24 : Adv a d 0 H23 (upd H23 ll (.lst [.ref tl])) := Adv.of (same_new hll)
    have e_ll : hid a d (upd H23 ll (.lst [.ref tl])) ll = some (.lst [.ref tl]) := by rw [hid_oth nn_ll.1 nn_ll.2, upd_same]
    generalize upd H23 ll (.lst [.ref tl]) = H24 at *
    have C_H24 := C_H23.trans A_H24 (Int.le_refl _)
    have S_H24 := A_H24.src _ S_H23
    have e_D := A_H24.same _ _ e_D
    have e_tl := A_H24.same _ _ e_tl
    refine ⟨ll, [.con wt (200 + rl)], rfl, nest_of (hid_get e_ll).1 (.cons ⟨tl, rfl, (hid_get e_tl).1⟩ .nil), con_okL (by omega) (by omega), (by show 1 ≤ 5000; decide), (by show (1 : Int) * (200 + rl) ≤ 10000; omega), fun H25 lg s_H25 h_lg e_lg => ?_⟩
    rw [flatL_con (by omega) (by omega)] at e_lg
    have A_H25 := Adv.of (a := a) (d := d) s_H25
    have e_lg := hid_at e_lg (S_H24.new1 h_lg).1 (S_H24.new1 h_lg).2
    have C_H25 := C_H24.trans A_H25 (Int.le_refl _)
    have S_H25 := A_H25.src _ S_H24
    have e_D := A_H25.same _ _ e_D
    have e_tl := A_H25.same _ _ e_tl
    have e_ll := A_H25.same _ _ e_ll
    refine ⟨_, rfl, _, rfl, size_le (by show 3 ≤ 100000; decide), fun t1 h1 => ?_⟩
    have nn_t1 := S_H25.new1 h1
    have A_H26 : Adv a d 0 H25 (upd H25 t1 (.tup [.int 0, .ref lg, .ref D])) := Adv.of (same_new h1)
    have e_t1 : hid a d (upd H25 t1 (.tup [.int 0, .ref lg, .ref D])) t1 = some (.tup [.int 0, .ref lg, .ref D]) := by rw [hid_oth nn_t1.1 nn_t1.2, upd_same]
    generalize upd H25 t1 (.tup [.int 0, .ref lg, .ref D]) = H26 at *
    have C_H26 := C_H25.trans A_H26 (Int.le_refl _)
    have S_H26 := A_H26.src _ S_H25
    have e_D := A_H26.same _ _ e_D
    have e_tl := A_H26.same _ _ e_tl
    have e_ll := A_H26.same _ _ e_ll
    have e_lg := A_H26.same _ _ e_lg
    refine ⟨_, rfl, _, rfl, size_le (by show 3 ≤ 100000; decide), fun t2 h2 => ?_⟩
    have nn_t2 := S_H26.new1 h2
    have A_H27 : Adv a d 0 H26 (upd H26 t2 (.tup [.int 0, .ref D, .ref lg])) := Adv.of (same_new h2)
    have e_t2 : hid a d (upd H26 t2 (.tup [.int 0, .ref D, .ref lg])) t2 = some (.tup [.int 0, .ref D, .ref lg]) := by rw [hid_oth nn_t2.1 nn_t2.2, upd_same]
    generalize upd H26 t2 (.tup [.int 0, .ref D, .ref lg]) = H27 at *
    have C_H27 := C_H26.trans A_H27 (Int.le_refl _)
    have S_H27 := A_H27.src _ S_H26
    have e_D := A_H27.same _ _ e_D
    have e_tl := A_H27.same _ _ e_tl
    have e_ll := A_H27.same _ _ e_ll
    have e_lg := A_H27.same _ _ e_lg
    have e_t1 := A_H27.same _ _ e_t1
    refine ⟨_, _, rfl, rfl, ⟨by decide, by decide, by decide⟩, size_le (by show 2 ≤ 100000; decide), fun u1 h3 => ?_⟩
    have nn_u1 := S_H27.new1 h3
    have A_H28 : Adv a d 0 H27 (upd H27 u1 (.tup [.int 0, (fun i j : Int => V.int (i ^ j.toNat)) 10 19])) := Adv.of (same_new h3)
    have e_u1 : hid a d (upd H27 u1 (.tup [.int 0, (fun i j : Int => V.int (i ^ j.toNat)) 10 19])) u1 = some (.tup [.int 0, (fun i j : Int => V.int (i ^ j.toNat)) 10 19]) := by rw [hid_oth nn_u1.1 nn_u1.2, upd_same]
    generalize upd H27 u1 (.tup [.int 0, (fun i j : Int => V.int (i ^ j.toNat)) 10 19]) = H28 at *
    have C_H28 := C_H27.trans A_H28 (Int.le_refl _)
    have S_H28 := A_H28.src _ S_H27
    have e_D := A_H28.same _ _ e_D
    have e_tl := A_H28.same _ _ e_tl
    have e_ll := A_H28.same _ _ e_ll
    have e_lg := A_H28.same _ _ e_lg
    have e_t1 := A_H28.same _ _ e_t1
    have e_t2 := A_H28.same _ _ e_t2
    have e_u1 : hid a d H28 u1 = some (.tup [.int 0, .int 10000000000000000000]) := e_u1
    refine ⟨_, rfl, size_le (by show 2 ≤ 100000; decide), fun u2 h4 => ?_⟩
    have nn_u2 := S_H28.new1 h4
    have A_H29 : Adv a d 0 H28 (upd H28 u2 (.lst [.int 3, .int (-1)])) := Adv.of (same_new h4)
    have e_u2 : hid a d (upd H28 u2 (.lst [.int 3, .int (-1)])) u2 = some (.lst [.int 3, .int (-1)]) := by rw [hid_oth nn_u2.1 nn_u2.2, upd_same]
    generalize upd H28 u2 (.lst [.int 3, .int (-1)]) = H29 at *
    have C_H29 := C_H28.trans A_H29 (Int.le_refl _)
    have S_H29 := A_H29.src _ S_H28
    have e_D := A_H29.same _ _ e_D
    have e_tl := A_H29.same _ _ e_tl
    have e_ll := A_H29.same _ _ e_ll
    have e_lg := A_H29.same _ _ e_lg
    have e_t1 := A_H29.same _ _ e_t1
    have e_t2 := A_H29.same _ _ e_t2
    have e_u1 := A_H29.same _ _ e_u1
    refine ⟨size_le (by show 2 ≤ 100000; decide), fun u3 h5 => ?_⟩
    have nn_u3 := S_H29.new1 h5
    have A_H30 : Adv a d 0 H29 (upd H29 u3 (.lst [.ref u1, .ref u2])) := Adv.of (same_new h5)
    have e_u3 : hid a d (upd H29 u3 (.lst [.ref u1, .ref u2])) u3 = some (.lst [.ref u1, .ref u2]) := by rw [hid_oth nn_u3.1 nn_u3.2, upd_same]
    generalize upd H29 u3 (.lst [.ref u1, .ref u2]) = H30 at *
    have C_H30 := C_H29.trans A_H30 (Int.le_refl _)
    have S_H30 := A_H30.src _ S_H29
    have e_D := A_H30.same _ _ e_D
    have e_tl := A_H30.same _ _ e_tl
    have e_ll := A_H30.same _ _ e_ll
    have e_lg := A_H30.same _ _ e_lg
    have e_t1 := A_H30.same _ _ e_t1
    have e_t2 := A_H30.same _ _ e_t2
    have e_u1 := A_H30.same _ _ e_u1
    have e_u2 := A_H30.same _ _ e_u2
    refine ⟨size_le (by show 3 ≤ 100000; decide), fun t3 h6 => ?_⟩
    have nn_t3 := S_H30.new1 h6
    have A_H31 : Adv a d 0 H30 (upd H30 t3 (.tup [.int 2, .ref u3, .non])) := Adv.of (same_new h6)
    have e_t3 : hid a d (upd H30 t3 (.tup [.int 2, .ref u3, .non])) t3 = some (.tup [.int 2, .ref u3, .non]) := by rw [hid_oth nn_t3.1 nn_t3.2, upd_same]
    generalize upd H30 t3 (.tup [.int 2, .ref u3, .non]) = H31 at *
    have C_H31 := C_H30.trans A_H31 (Int.le_refl _)
    have S_H31 := A_H31.src _ S_H30
    have e_D := A_H31.same _ _ e_D
    have e_tl := A_H31.same _ _ e_tl
    have e_ll := A_H31.same _ _ e_ll
    have e_lg := A_H31.same _ _ e_lg
    have e_t1 := A_H31.same _ _ e_t1
    have e_t2 := A_H31.same _ _ e_t2
    have e_u1 := A_H31.same _ _ e_u1
    have e_u2 := A_H31.same _ _ e_u2
    have e_u3 := A_H31.same _ _ e_u3
    refine ⟨size_le (by show 3 ≤ 100000; decide), fun l1 h7 => ?_⟩
    have nn_l1 := S_H31.new1 h7
    have A_H32 : Adv a d 0 H31 (upd H31 l1 (.lst [.ref t1, .ref t2, .ref t3])) := Adv.of (same_new h7)
    have e_l1 : hid a d (upd H31 l1 (.lst [.ref t1, .ref t2, .ref t3])) l1 = some (.lst [.ref t1, .ref t2, .ref t3]) := by rw [hid_oth nn_l1.1 nn_l1.2, upd_same]
    generalize upd H31 l1 (.lst [.ref t1, .ref t2, .ref t3]) = H32 at *
    have C_H32 := C_H31.trans A_H32 (Int.le_refl _)
    have S_H32 := A_H32.src _ S_H31
    have e_D := A_H32.same _ _ e_D
    have e_tl := A_H32.same _ _ e_tl
    have e_ll := A_H32.same _ _ e_ll
    have e_lg := A_H32.same _ _ e_lg
    have e_t1 := A_H32.same _ _ e_t1
    have e_t2 := A_H32.same _ _ e_t2
    have e_u1 := A_H32.same _ _ e_u1
    have e_u2 := A_H32.same _ _ e_u2
    have e_u3 := A_H32.same _ _ e_u3
    have e_t3 := A_H32.same _ _ e_t3
    refine ⟨_, rfl, _, _, rfl, rfl, ⟨by decide, by decide, by decide⟩, size_le (by show 2 ≤ 100000; decide), fun v1 h8 => ?_⟩
    have nn_v1 := S_H32.new1 h8
    have A_H33 : Adv a d 0 H32 (upd H32 v1 (.tup [.int 5, (fun i j : Int => V.int (i ^ j.toNat)) 10 19])) := Adv.of (same_new h8)
    have e_v1 : hid a d (upd H32 v1 (.tup [.int 5, (fun i j : Int => V.int (i ^ j.toNat)) 10 19])) v1 = some (.tup [.int 5, (fun i j : Int => V.int (i ^ j.toNat)) 10 19]) := by rw [hid_oth nn_v1.1 nn_v1.2, upd_same]
    generalize upd H32 v1 (.tup [.int 5, (fun i j : Int => V.int (i ^ j.toNat)) 10 19]) = H33 at *
    have C_H33 := C_H32.trans A_H33 (Int.le_refl _)
    have S_H33 := A_H33.src _ S_H32
    have e_D := A_H33.same _ _ e_D
    have e_tl := A_H33.same _ _ e_tl
    have e_ll := A_H33.same _ _ e_ll
    have e_lg := A_H33.same _ _ e_lg
    have e_t1 := A_H33.same _ _ e_t1
    have e_t2 := A_H33.same _ _ e_t2
    have e_u1 := A_H33.same _ _ e_u1
    have e_u2 := A_H33.same _ _ e_u2
    have e_u3 := A_H33.same _ _ e_u3
    have e_t3 := A_H33.same _ _ e_t3
    have e_l1 := A_H33.same _ _ e_l1
    have e_v1 : hid a d H33 v1 = some (.tup [.int 5, .int 10000000000000000000]) := e_v1
    refine ⟨size_le (by show 2 ≤ 100000; decide), fun v2 h9 => ?_⟩
    have nn_v2 := S_H33.new1 h9
    have A_H34 : Adv a d 0 H33 (upd H33 v2 (.tup [.int 1, .int 0])) := Adv.of (same_new h9)
    have e_v2 : hid a d (upd H33 v2 (.tup [.int 1, .int 0])) v2 = some (.tup [.int 1, .int 0]) := by rw [hid_oth nn_v2.1 nn_v2.2, upd_same]
    generalize upd H33 v2 (.tup [.int 1, .int 0]) = H34 at *
    have C_H34 := C_H33.trans A_H34 (Int.le_refl _)
    have S_H34 := A_H34.src _ S_H33
    have e_D := A_H34.same _ _ e_D
    have e_tl := A_H34.same _ _ e_tl
    have e_ll := A_H34.same _ _ e_ll
    have e_lg := A_H34.same _ _ e_lg
    have e_t1 := A_H34.same _ _ e_t1
    have e_t2 := A_H34.same _ _ e_t2
    have e_u1 := A_H34.same _ _ e_u1
    have e_u2 := A_H34.same _ _ e_u2
    have e_u3 := A_H34.same _ _ e_u3
    have e_t3 := A_H34.same _ _ e_t3
    have e_l1 := A_H34.same _ _ e_l1
    have e_v1 := A_H34.same _ _ e_v1
    refine ⟨_, rfl, _, _, rfl, rfl, ⟨by decide, by decide, by decide⟩, size_le (by show 2 ≤ 100000; decide), fun v3 h10 => ?_⟩
    have nn_v3 := S_H34.new1 h10
    have A_H35 : Adv a d 0 H34 (upd H34 v3 (.tup [.int (-1), (fun i j : Int => V.int (i ^ j.toNat)) 10 19])) := Adv.of (same_new h10)
    have e_v3 : hid a d (upd H34 v3 (.tup [.int (-1), (fun i j : Int => V.int (i ^ j.toNat)) 10 19])) v3 = some (.tup [.int (-1), (fun i j : Int => V.int (i ^ j.toNat)) 10 19]) := by rw [hid_oth nn_v3.1 nn_v3.2, upd_same]
    generalize upd H34 v3 (.tup [.int (-1), (fun i j : Int => V.int (i ^ j.toNat)) 10 19]) = H35 at *
    have C_H35 := C_H34.trans A_H35 (Int.le_refl _)
    have S_H35 := A_H35.src _ S_H34
    have e_D := A_H35.same _ _ e_D
    have e_tl := A_H35.same _ _ e_tl
    have e_ll := A_H35.same _ _ e_ll
    have e_lg := A_H35.same _ _ e_lg
    have e_t1 := A_H35.same _ _ e_t1
    have e_t2 := A_H35.same _ _ e_t2
    have e_u1 := A_H35.same _ _ e_u1
    have e_u2 := A_H35.same _ _ e_u2
    have e_u3 := A_H35.same _ _ e_u3
    have e_t3 := A_H35.same _ _ e_t3
    have e_l1 := A_H35.same _ _ e_l1
    have e_v1 := A_H35.same _ _ e_v1
    have e_v2 := A_H35.same _ _ e_v2
    have e_v3 : hid a d H35 v3 = some (.tup [.int (-1), .int 10000000000000000000]) := e_v3
    refine ⟨size_le (by show 3 ≤ 100000; decide), fun v4 h11 => ?_⟩
    have nn_v4 := S_H35.new1 h11
    have A_H36 : Adv a d 0 H35 (upd H35 v4 (.lst [.ref v1, .ref v2, .ref v3])) := Adv.of (same_new h11)
    have e_v4 : hid a d (upd H35 v4 (.lst [.ref v1, .ref v2, .ref v3])) v4 = some (.lst [.ref v1, .ref v2, .ref v3]) := by rw [hid_oth nn_v4.1 nn_v4.2, upd_same]
    generalize upd H35 v4 (.lst [.ref v1, .ref v2, .ref v3]) = H36 at *
    have C_H36 := C_H35.trans A_H36 (Int.le_refl _)
    have S_H36 := A_H36.src _ S_H35
    have e_D := A_H36.same _ _ e_D
    have e_tl := A_H36.same _ _ e_tl
    have e_ll := A_H36.same _ _ e_ll
    have e_lg := A_H36.same _ _ e_lg
    have e_t1 := A_H36.same _ _ e_t1
    have e_t2 := A_H36.same _ _ e_t2
    have e_u1 := A_H36.same _ _ e_u1
    have e_u2 := A_H36.same _ _ e_u2
    have e_u3 := A_H36.same _ _ e_u3
    have e_t3 := A_H36.same _ _ e_t3
    have e_l1 := A_H36.same _ _ e_l1
    have e_v1 := A_H36.same _ _ e_v1
    have e_v2 := A_H36.same _ _ e_v2
    have e_v3 := A_H36.same _ _ e_v3
    refine ⟨size_le (by show 3 ≤ 100000; decide), fun t4 h12 => ?_⟩
    have nn_t4 := S_H36.new1 h12
    have A_H37 : Adv a d 0 H36 (upd H36 t4 (.tup [.int 2, .ref v4, .non])) := Adv.of (same_new h12)
    have e_t4 : hid a d (upd H36 t4 (.tup [.int 2, .ref v4, .non])) t4 = some (.tup [.int 2, .ref v4, .non]) := by rw [hid_oth nn_t4.1 nn_t4.2, upd_same]
    generalize upd H36 t4 (.tup [.int 2, .ref v4, .non]) = H37 at *
    have C_H37 := C_H36.trans A_H37 (Int.le_refl _)
    have S_H37 := A_H37.src _ S_H36
    have e_D := A_H37.same _ _ e_D
    have e_tl := A_H37.same _ _ e_tl
    have e_ll := A_H37.same _ _ e_ll
    have e_lg := A_H37.same _ _ e_lg
    have e_t1 := A_H37.same _ _ e_t1
    have e_t2 := A_H37.same _ _ e_t2
    have e_u1 := A_H37.same _ _ e_u1
    have e_u2 := A_H37.same _ _ e_u2
    have e_u3 := A_H37.same _ _ e_u3
    have e_t3 := A_H37.same _ _ e_t3
    have e_l1 := A_H37.same _ _ e_l1
    have e_v1 := A_H37.same _ _ e_v1
    have e_v2 := A_H37.same _ _ e_v2
    have e_v3 := A_H37.same _ _ e_v3
    have e_v4 := A_H37.same _ _ e_v4
    refine ⟨_, _, rfl, rfl, ⟨by decide, by decide, by decide⟩, size_le (by show 2 ≤ 100000; decide), fun w1 h13 => ?_⟩
    have nn_w1 := S_H37.new1 h13
    have A_H38 : Adv a d 0 H37 (upd H37 w1 (.tup [.int 0, (fun i j : Int => V.int (i ^ j.toNat)) 10 19])) := Adv.of (same_new h13)
    have e_w1 : hid a d (upd H37 w1 (.tup [.int 0, (fun i j : Int => V.int (i ^ j.toNat)) 10 19])) w1 = some (.tup [.int 0, (fun i j : Int => V.int (i ^ j.toNat)) 10 19]) := by rw [hid_oth nn_w1.1 nn_w1.2, upd_same]
    generalize upd H37 w1 (.tup [.int 0, (fun i j : Int => V.int (i ^ j.toNat)) 10 19]) = H38 at *
    have C_H38 := C_H37.trans A_H38 (Int.le_refl _)
    have S_H38 := A_H38.src _ S_H37
    have e_D := A_H38.same _ _ e_D
    have e_tl := A_H38.same _ _ e_tl
    have e_ll := A_H38.same _ _ e_ll
    have e_lg := A_H38.same _ _ e_lg
    have e_t1 := A_H38.same _ _ e_t1
    have e_t2 := A_H38.same _ _ e_t2
    have e_u1 := A_H38.same _ _ e_u1
    have e_u2 := A_H38.same _ _ e_u2
    have e_u3 := A_H38.same _ _ e_u3
    have e_t3 := A_H38.same _ _ e_t3
    have e_l1 := A_H38.same _ _ e_l1
    have e_v1 := A_H38.same _ _ e_v1
    have e_v2 := A_H38.same _ _ e_v2
    have e_v3 := A_H38.same _ _ e_v3
    have e_v4 := A_H38.same _ _ e_v4
    have e_t4 := A_H38.same _ _ e_t4
    have e_w1 : hid a d H38 w1 = some (.tup [.int 0, .int 10000000000000000000]) := e_w1
    refine ⟨_, rfl, size_le (by show 2 ≤ 100000; decide), fun w2 h14 => ?_⟩
    have nn_w2 := S_H38.new1 h14
    have A_H39 : Adv a d 0 H38 (upd H38 w2 (.lst [.int (-1), .int 3])) := Adv.of (same_new h14)
    have e_w2 : hid a d (upd H38 w2 (.lst [.int (-1), .int 3])) w2 = some (.lst [.int (-1), .int 3]) := by rw [hid_oth nn_w2.1 nn_w2.2, upd_same]
    generalize upd H38 w2 (.lst [.int (-1), .int 3]) = H39 at *
    have C_H39 := C_H38.trans A_H39 (Int.le_refl _)
    have S_H39 := A_H39.src _ S_H38
    have e_D := A_H39.same _ _ e_D
    have e_tl := A_H39.same _ _ e_tl
    have e_ll := A_H39.same _ _ e_ll
    have e_lg := A_H39.same _ _ e_lg
    have e_t1 := A_H39.same _ _ e_t1
    have e_t2 := A_H39.same _ _ e_t2
    have e_u1 := A_H39.same _ _ e_u1
    have e_u2 := A_H39.same _ _ e_u2
    have e_u3 := A_H39.same _ _ e_u3
    have e_t3 := A_H39.same _ _ e_t3
    have e_l1 := A_H39.same _ _ e_l1
    have e_v1 := A_H39.same _ _ e_v1
    have e_v2 := A_H39.same _ _ e_v2
    have e_v3 := A_H39.same _ _ e_v3
    have e_v4 := A_H39.same _ _ e_v4
    have e_t4 := A_H39.same _ _ e_t4
    have e_w1 := A_H39.same _ _ e_w1
    refine ⟨size_le (by show 2 ≤ 100000; decide), fun w3 h15 => ?_⟩
    have nn_w3 := S_H39.new1 h15
    have A_H40 : Adv a d 0 H39 (upd H39 w3 (.lst [.ref w1, .ref w2])) := Adv.of (same_new h15)
    have e_w3 : hid a d (upd H39 w3 (.lst [.ref w1, .ref w2])) w3 = some (.lst [.ref w1, .ref w2]) := by rw [hid_oth nn_w3.1 nn_w3.2, upd_same]
    generalize upd H39 w3 (.lst [.ref w1, .ref w2]) = H40 at *
    have C_H40 := C_H39.trans A_H40 (Int.le_refl _)
    have S_H40 := A_H40.src _ S_H39
    have e_D := A_H40.same _ _ e_D
    have e_tl := A_H40.same _ _ e_tl
    have e_ll := A_H40.same _ _ e_ll
    have e_lg := A_H40.same _ _ e_lg
    have e_t1 := A_H40.same _ _ e_t1
    have e_t2 := A_H40.same _ _ e_t2
    have e_u1 := A_H40.same _ _ e_u1
    have e_u2 := A_H40.same _ _ e_u2
    have e_u3 := A_H40.same _ _ e_u3
    have e_t3 := A_H40.same _ _ e_t3
    have e_l1 := A_H40.same _ _ e_l1
    have e_v1 := A_H40.same _ _ e_v1
    have e_v2 := A_H40.same _ _ e_v2
    have e_v3 := A_H40.same _ _ e_v3
    have e_v4 := A_H40.same _ _ e_v4
    have e_t4 := A_H40.same _ _ e_t4
    have e_w1 := A_H40.same _ _ e_w1
    have e_w2 := A_H40.same _ _ e_w2
    refine ⟨size_le (by show 3 ≤ 100000; decide), fun t5 h16 => ?_⟩
    have nn_t5 := S_H40.new1 h16
    have A_H41 : Adv a d 0 H40 (upd H40 t5 (.tup [.int 1, .ref w3, .non])) := Adv.of (same_new h16)
    have e_t5 : hid a d (upd H40 t5 (.tup [.int 1, .ref w3, .non])) t5 = some (.tup [.int 1, .ref w3, .non]) := by rw [hid_oth nn_t5.1 nn_t5.2, upd_same]
    generalize upd H40 t5 (.tup [.int 1, .ref w3, .non]) = H41 at *
    have C_H41 := C_H40.trans A_H41 (Int.le_refl _)
    have S_H41 := A_H41.src _ S_H40
    have e_D := A_H41.same _ _ e_D
    have e_tl := A_H41.same _ _ e_tl
    have e_ll := A_H41.same _ _ e_ll
    have e_lg := A_H41.same _ _ e_lg
    have e_t1 := A_H41.same _ _ e_t1
    have e_t2 := A_H41.same _ _ e_t2
    have e_u1 := A_H41.same _ _ e_u1
    have e_u2 := A_H41.same _ _ e_u2
    have e_u3 := A_H41.same _ _ e_u3
    have e_t3 := A_H41.same _ _ e_t3
    have e_l1 := A_H41.same _ _ e_l1
    have e_v1 := A_H41.same _ _ e_v1
    have e_v2 := A_H41.same _ _ e_v2
    have e_v3 := A_H41.same _ _ e_v3
    have e_v4 := A_H41.same _ _ e_v4
    have e_t4 := A_H41.same _ _ e_t4
    have e_w1 := A_H41.same _ _ e_w1
    have e_w2 := A_H41.same _ _ e_w2
    have e_w3 := A_H41.same _ _ e_w3
    refine ⟨size_le (by show 2 ≤ 100000; decide), fun l2 h17 => ?_⟩
    have nn_l2 := S_H41.new1 h17
    have A_H42 : Adv a d 0 H41 (upd H41 l2 (.lst [.ref t4, .ref t5])) := Adv.of (same_new h17)
    have e_l2 : hid a d (upd H41 l2 (.lst [.ref t4, .ref t5])) l2 = some (.lst [.ref t4, .ref t5]) := by rw [hid_oth nn_l2.1 nn_l2.2, upd_same]
    generalize upd H41 l2 (.lst [.ref t4, .ref t5]) = H42 at *
    have C_H42 := C_H41.trans A_H42 (Int.le_refl _)
    have S_H42 := A_H42.src _ S_H41
    have e_D := A_H42.same _ _ e_D
    have e_tl := A_H42.same _ _ e_tl
    have e_ll := A_H42.same _ _ e_ll
    have e_lg := A_H42.same _ _ e_lg
    have e_t1 := A_H42.same _ _ e_t1
    have e_t2 := A_H42.same _ _ e_t2
    have e_u1 := A_H42.same _ _ e_u1
    have e_u2 := A_H42.same _ _ e_u2
    have e_u3 := A_H42.same _ _ e_u3
    have e_t3 := A_H42.same _ _ e_t3
    have e_l1 := A_H42.same _ _ e_l1
    have e_v1 := A_H42.same _ _ e_v1
    have e_v2 := A_H42.same _ _ e_v2
    have e_v3 := A_H42.same _ _ e_v3
    have e_v4 := A_H42.same _ _ e_v4
    have e_t4 := A_H42.same _ _ e_t4
    have e_w1 := A_H42.same _ _ e_w1
    have e_w2 := A_H42.same _ _ e_w2
    have e_w3 := A_H42.same _ _ e_w3
    have e_t5 := A_H42.same _ _ e_t5
    refine ⟨l1, l2, _, _, rfl, rfl, (hid_get e_l1).1, (hid_get e_l2).1, size_le (by show 5 ≤ 100000; decide), fun r hr' => ?_⟩
    have free : H r = none := C_H42.free hS hr'
    have nn_r := S_H42.new1 hr'
    have A_H43 : Adv a d 0 H42 (upd H42 r (.lst ([.ref t1, .ref t2, .ref t3] ++ [.ref t4, .ref t5]))) := Adv.of (same_new hr')
    have e_r : hid a d (upd H42 r (.lst ([.ref t1, .ref t2, .ref t3] ++ [.ref t4, .ref t5]))) r = some (.lst ([.ref t1, .ref t2, .ref t3] ++ [.ref t4, .ref t5])) := by rw [hid_oth nn_r.1 nn_r.2, upd_same]
    generalize upd H42 r (.lst ([.ref t1, .ref t2, .ref t3] ++ [.ref t4, .ref t5])) = H43 at *
    have C_H43 := C_H42.trans A_H43 (Int.le_refl _)
    have S_H43 := A_H43.src _ S_H42
    have e_D := A_H43.same _ _ e_D
    have e_tl := A_H43.same _ _ e_tl
    have e_ll := A_H43.same _ _ e_ll
    have e_lg := A_H43.same _ _ e_lg
    have e_t1 := A_H43.same _ _ e_t1
    have e_t2 := A_H43.same _ _ e_t2
    have e_u1 := A_H43.same _ _ e_u1
    have e_u2 := A_H43.same _ _ e_u2
    have e_u3 := A_H43.same _ _ e_u3
    have e_t3 := A_H43.same _ _ e_t3
    have e_l1 := A_H43.same _ _ e_l1
    have e_v1 := A_H43.same _ _ e_v1
    have e_v2 := A_H43.same _ _ e_v2
    have e_v3 := A_H43.same _ _ e_v3
    have e_v4 := A_H43.same _ _ e_v4
    have e_t4 := A_H43.same _ _ e_t4
    have e_w1 := A_H43.same _ _ e_w1
    have e_w2 := A_H43.same _ _ e_w2
    have e_w3 := A_H43.same _ _ e_w3
    have e_t5 := A_H43.same _ _ e_t5
    have e_l2 := A_H43.same _ _ e_l2
    have lD : zs.length ≤ 300 := by omega
    have bD : ∀ z ∈ zs, z.natAbs < 10 ^ 24 := fun z hz => by have := hzb z hz; omega
    have lL : (List.replicate (200 + rl - 1).toNat wt).length ≤ 300 := by rw [List.length_replicate]; omega
    have bL : ∀ z ∈ List.replicate (200 + rl - 1).toNat wt, z.natAbs < 10 ^ 24 := fun z hz => by rw [List.eq_of_mem_replicate hz]; omega
    refine q _ r _ (C_H43.mono (by omega)) free e_r rfl fun v hv => ?_
    simp only [List.mem_append, List.mem_cons, List.not_mem_nil, or_false] at hv
    rcases hv with (rfl | rfl | rfl) | rfl | rfl
    · exact .two e_t1 e_lg e_D lL lD bL bD
    · exact .two e_t2 e_D e_lg lD lL bD bL
    · exact Asked.one (Ls := [.con 0 10000000000000000000, .pol [3, -1]]) e_t3 (.inr rfl) (nest_of e_u3 (.cons ⟨u1, rfl, e_u1⟩ (.cons ⟨u2, rfl, e_u2⟩ .nil))) (by show 2 ≤ 10; decide) (seen_two ⟨by decide, by decide⟩ ⟨by show 2 ≤ 60; decide, by decide⟩)
    · exact Asked.one (Ls := [.con 5 10000000000000000000, .con 1 0, .con (-1) 10000000000000000000]) e_t4 (.inr rfl) (nest_of e_v4 (.cons ⟨v1, rfl, e_v1⟩ (.cons ⟨v2, rfl, e_v2⟩ (.cons ⟨v3, rfl, e_v3⟩ .nil)))) (by show 3 ≤ 10; decide) (seen_three ⟨by decide, by decide⟩ ⟨by decide, by decide⟩ ⟨by decide, by decide⟩)
    · exact Asked.one (Ls := [.con 0 10000000000000000000, .pol [-1, 3]]) e_t5 (.inl rfl) (nest_of e_w3 (.cons ⟨w1, rfl, e_w1⟩ (.cons ⟨w2, rfl, e_w2⟩ .nil))) (by show 2 ≤ 10; decide) (seen_two ⟨by decide, by decide⟩ ⟨by show 2 ≤ 60; decide, by decide⟩)

end
end Rn
namespace Rn
open PySem PySem.Spec PyProof.Rows L2
section
variable {P : Program} {w : World} {K : PySem.W.Frag} {mg : Str → Option Value} {base : Heap}
def rows6 : List (Str × V × PyData) := [("InvalidWait", .int 0, .int 0), ("InvalidLayer", .int 2, .int 2), ("InvalidNumber", .int (-1), .int (-1)), ("TooManyAttempts", .int 10001, .int 10001), ("NoMoreAttempts", .int 3, .int 3), ("Unreadable", .str "x", .str "x")]
def rows12 : List (Str × V × PyData) := rows6 ++ rows6
def rowV (r : Str × V × PyData) : List V := [.str r.1, r.2.1, .bl true]
def rowD (r : Str × V × PyData) : PyData := .list [.str r.1, r.2.2, .bool true]
/-- the first i rows, each a list of its own -/
def RowsAt (H : Hp) (D : Addr) (i : Nat) : Prop := ∃ rs : List V, H D = some (.lst rs) ∧ rs.length = i ∧ ∀ (j : Nat) (x : V), rs[j]? = some x → ∃ (r : Addr) (row : Str × V × PyData), x = .ref r ∧ rows12[j]? = some row ∧ H r = some (.lst (rowV row))
theorem RowsAt.nil {H : Hp} {D : Addr} : RowsAt (upd H D (.lst [])) D 0 := ⟨[], upd_same, rfl, fun j x h => by cases h⟩
theorem RowsAt.same {H H' : Hp} {D : Addr} {i : Nat} (h : RowsAt H D i) (s : Same H H') : RowsAt H' D i := by
  obtain ⟨rs, h1, h2, h3⟩ := h
  refine ⟨rs, s _ _ h1, h2, fun j x hx => ?_⟩
  obtain ⟨r, row, e1, e2, e3⟩ := h3 j x hx
  exact ⟨r, row, e1, e2, s _ _ e3⟩
theorem RowsAt.push {H H' : Hp} {D r : Addr} {i : Nat} {row : Str × V × PyData} (h : RowsAt H D i) (s : Same H H') (hr : H' r = some (.lst (rowV row))) (hi : rows12[i]? = some row) : ∃ acc, H' D = some (.lst acc) ∧ acc.length = i ∧ RowsAt (upd H' D (.lst (acc ++ [.ref r]))) D (i + 1) := by
  obtain ⟨rs, h1, h2, h3⟩ := h.same s
  have no : ∀ (q : Addr) (w : Str × V × PyData), H' q = some (.lst (rowV w)) → q ≠ D := fun q w e z => by
    rw [z, h1] at e
    have e1 : rs = rowV w := HO.lst.inj (Option.some.inj e)
    have e0 : rs[0]? = some (.str w.1) := by rw [e1]; rfl
    obtain ⟨_, _, e2, _⟩ := h3 0 _ e0
    cases e2
  refine ⟨rs, h1, h2, rs ++ [.ref r], upd_same, by rw [List.length_append, h2]; rfl, fun j x hx => ?_⟩
  by_cases hj : j < rs.length
  · rw [List.getElem?_append_left hj] at hx
    obtain ⟨q, w, e1, e2, e3⟩ := h3 j x hx
    exact ⟨q, w, e1, e2, by rw [upd_ne (no q w e3)]; exact e3⟩
  · rw [List.getElem?_append_right (by omega)] at hx
    obtain rfl : j = i := by
      have := (List.getElem?_eq_some_iff.mp hx).1
      rw [List.length_singleton] at this
      omega
    rw [h2, Nat.sub_self] at hx
    cases hx
    exact ⟨r, row, rfl, hi, by rw [upd_ne (no r row hr)]; exact hr⟩
theorem dpAll_of {K : PySem.W.Frag} {H : Hp} : ∀ (rs : List V) (ds : List PyData), rs.length = ds.length → (∀ (j : Nat) x d, rs[j]? = some x → ds[j]? = some d → Dp K H x d) → DpAll K H rs ds
  | [], [], _, _ => .nil
  | [], d :: ds, h, _ => by cases h
  | x :: xs, [], h, _ => by cases h
  | x :: xs, d :: ds, h, k => .cons (k 0 x d rfl rfl) (dpAll_of xs ds (Nat.succ.inj h) fun j y e a b => k (j + 1) y e a b)
theorem row_dp {K : PySem.W.Frag} {H : Hp} {row : Str × V × PyData} (h : row ∈ rows12) : Dp K H row.2.1 row.2.2 := by
  have h6 : row ∈ rows6 := (List.mem_append.mp h).elim id id
  simp only [rows6, List.mem_cons, List.not_mem_nil, or_false] at h6
  rcases h6 with rfl | rfl | rfl | rfl | rfl | rfl
  · exact .int _
  · exact .int _
  · exact .int _
  · exact .int _
  · exact .int _
  · exact .str _
theorem RowsAt.dp {K : PySem.W.Frag} {H : Hp} {D : Addr} (h : RowsAt H D 12) : Dp K H (.ref D) (.list (rows12.map rowD)) := by
  obtain ⟨rs, h1, h2, h3⟩ := h
  refine .lst (sql h1) (dpAll_of rs _ (by rw [h2]; rfl) fun j x d hx hd => ?_)
  obtain ⟨r, row, rfl, e2, e3⟩ := h3 j x hx
  rw [List.getElem?_map, e2] at hd
  cases hd
  exact .lst (sql e3) (.cons (.str _) (.cons (row_dp (List.mem_of_getElem? e2)) (.cons (.bl _) .nil)))
theorem rows_ok : (PyData.list (rows12.map rowD)).canLay0 = true ∧ SeqAt.shaped (PyData.list (rows12.map rowD)) = true := ⟨by decide +kernel, by decide +kernel⟩
theorem rows_get : ∀ i : Nat, i < 12 → ∃ row, rows12[i]? = some row ∧ ((rows6 ++ rows6).map fun r => V.str r.1)[i]? = some (.str row.1) ∧ ((rows6 ++ rows6).map fun r => r.2.1)[i]? = some row.2.1 := fun i hi => by
  have h : i < rows12.length := hi
  exact ⟨rows12[i], List.getElem?_eq_getElem h, by rw [List.getElem?_map]; show (rows12[i]?).map _ = _; rw [List.getElem?_eq_getElem h]; rfl, by rw [List.getElem?_map]; show (rows12[i]?).map _ = _; rw [List.getElem?_eq_getElem h]; rfl⟩
theorem seen_four {L M O Z : Lay} (h : L.seen) (h2 : M.seen) (h3 : O.seen) (h4 : Z.seen) : ∀ N ∈ [L, M, O, Z], N.seen := fun N hN => by
  simp only [List.mem_cons, List.not_mem_nil, or_false] at hN
  rcases hN with rfl | rfl | rfl | rfl <;> assumption
def sp_law (K : PySem.W.Frag) : Sp := fun vs H Q _ => ∃ (a : Addr) (ns : List Int), vs = [.ref a] ∧ SqL K H a (ns.map V.int) ∧ ns.length ≤ 63 ∧ ∀ H', Q (.bl true) H'
abbrev lvl_law : Nat := 7
theorem ok_law (T : Txt P K mg) : FnG P w K mg base lvl_law T.f_law T.d_law ["script"] (sp_law K) := by
  have G_law_source := (ok_law_source (P := P) (w := w) (base := base) T).mono (by decide : 1 ≤ 6)
  have G_law_draw := (ok_law_draw (P := P) (w := w) (base := base) T).mono (by decide : 1 ≤ 6)
  have G_law_wait_drawn := (ok_law_wait_drawn (P := P) (w := w) (base := base) T).mono (by decide : 2 ≤ 6)
  have G_law_policy := (ok_law_policy (P := P) (w := w) (base := base) T).mono (by decide : 3 ≤ 6)
  have G_law_nesting := (ok_law_nesting (P := P) (w := w) (base := base) T).mono (by decide : 4 ≤ 6)
  have G_law_error := (ok_law_error (P := P) (w := w) (base := base) T).mono (by decide : 2 ≤ 6)
  have G_law_raised := (ok_law_raised (P := P) (w := w) (base := base) T).mono (by decide : 6 ≤ 6)
  have G_law_due := (ok_law_due (P := P) (w := w) (base := base) T).mono (by decide : 2 ≤ 6)
  have G_law_same := (ok_law_same (P := P) (w := w) (base := base) T).mono (by decide : 2 ≤ 6)
  have G_law_spoilt_waits := (ok_law_spoilt_waits (P := P) (w := w) (base := base) T).mono (by decide : 3 ≤ 6)
  have G_law_spoilt_layers := (ok_law_spoilt_layers (P := P) (w := w) (base := base) T).mono (by decide : 4 ≤ 6)
  have G_law_two_errors := (ok_law_two_errors (P := P) (w := w) (base := base) T).mono (by decide : 6 ≤ 6)
  have G_flatten := (ok_flatten0 (P := P) (w := w) (base := base) T).mono (by decide : 5 ≤ 6)
  refine okG T.F_law sc_law (fun cdv A outer s H vs Q E gu hr h => ?_)
  obtain ⟨sa, ns, rfl, hS, hl, q⟩ := h
  refine ⟨_, (pss_cons (ps_set (i := 1) sc_law.nd rfl (Or.inr rfl) (pe_call G_law_source hr (by rfl) T.g_law_source T.F_law_source.kp T.b_law_source .nil pass0 (pa_cons (pv 0) pa_nil)))
      (pss_cons (ps_set (i := 2) sc_law.nd rfl (Or.inl rfl) (pe_lst (pa_cons (pe_ofMk (pmk_veN T.V_InvalidWait hr (pa_cons pe_int pa_nil))) (pa_cons (pe_ofMk (pmk_veK T.V_InvalidLayer hr (pk_cons pe_int pk_nil))) (pa_cons (pe_ofMk (pmk_veN T.V_InvalidNumber hr (pa_cons (pe_un un_neg pe_int) pa_nil))) (pa_cons (pe_ofMk (pmk_veN T.V_TooManyAttempts hr (pa_cons pe_int pa_nil))) (pa_cons (pe_ofMk (pmk_veN T.V_NoMoreAttempts hr (pa_cons pe_int pa_nil))) pa_nil)))))))
      (pss_cons (ps_set (i := 2) sc_law.nd rfl (Or.inl rfl) (pe_op op_cat (pv 2) (pe_lst (pa_cons (pe_ofMk (pmk_veN T.V_Unreadable hr (pa_cons pe_str pa_nil))) (pa_cons (pe_ofMk (pmk_veK T.V_InvalidWait hr (pk_cons pe_int pk_nil))) (pa_cons (pe_ofMk (pmk_veN T.V_InvalidLayer hr (pa_cons pe_int pa_nil))) (pa_cons (pe_ofMk (pmk_veK T.V_InvalidNumber hr (pk_cons (pe_un un_neg pe_int) pk_nil))) pa_nil)))))))
      (pss_cons (ps_set (i := 2) sc_law.nd rfl (Or.inl rfl) (pe_op op_cat (pv 2) (pe_lst (pa_cons (pe_ofMk (pmk_veK T.V_TooManyAttempts hr (pk_cons pe_int pk_nil))) (pa_cons (pe_ofMk (pmk_veK T.V_NoMoreAttempts hr (pk_cons pe_int pk_nil))) (pa_cons (pe_ofMk (pmk_veK T.V_Unreadable hr (pk_cons pe_str pk_nil))) pa_nil))))))
      (pss_cons (ps_set (i := 3) sc_law.nd rfl (Or.inr rfl) (pe_op op_rep (pe_lst (pa_cons pe_str (pa_cons pe_str (pa_cons pe_str (pa_cons pe_str (pa_cons pe_str (pa_cons pe_str pa_nil))))))) pe_int))
      (pss_cons (ps_set (i := 4) sc_law.nd rfl (Or.inr rfl) (pe_op op_rep (pe_lst (pa_cons pe_int (pa_cons pe_int (pa_cons (pe_un un_neg pe_int) (pa_cons pe_int (pa_cons pe_int (pa_cons pe_str pa_nil))))))) pe_int))
      (pss_cons (ps_if (pt_cmpR (op_neD hr.units) (pe_lc (own := [("e", 18)]) (g := gName 18) (tt := tYes) rfl sc_law.nd (pi_list (pv 2)) (blkOk_by (N := ["script", "source", "made", "names", "values", "k", "sizes", "long", "calls", "some", "time", "layers", "first", "near", "door", "one", "other", "saved", "e", "size"]) (sc := defScope s_law) (by decide +kernel)) (fun _ _ _ _ _ => (pg_name (i := 18) sc_law.nd rfl (Or.inl rfl))) (fun _ _ _ _ _ => pts_nil) (fun _ _ _ _ _ => (pe_call G_law_error hr (by rfl) T.g_law_error T.F_law_error.kp T.b_law_error .nil pass0 (pa_cons (pv 18) pa_nil)))) (pe_lc (own := [("k", 5)]) (g := gName 5) (tt := tYes) rfl sc_law.nd (pi_range1 (by rfl) T.m_range (pa_cons pe_int pa_nil)) (blkOk_by (N := ["script", "source", "made", "names", "values", "k", "sizes", "long", "calls", "some", "time", "layers", "first", "near", "door", "one", "other", "saved", "e", "size"]) (sc := defScope s_law) (by decide +kernel)) (fun _ _ _ _ _ => (pg_name (i := 5) sc_law.nd rfl (Or.inl rfl))) (fun _ _ _ _ _ => pts_nil) (fun _ _ _ _ _ => (pe_lst (pa_cons (pe_ix (ix_listK (K := K) rfl) (pv 3) (pv 5) (fun _ _ => rfl)) (pa_cons (pe_ix (ix_listK (K := K) rfl) (pv 4) (pv 5) (fun _ _ => rfl)) (pa_cons pe_bl pa_nil)))))) (nomark _))
      (pss_one (ps_ret pe_bl))
      pss_nil)
      (pss_cons (ps_for PassesOwn.never rfl (pi_range1 (by rfl) T.m_range (pa_cons (pe_op op_add pe_int (pe_callB (call_min2 rfl) (by rfl) T.m_min (by decide +kernel) (pa_cons pe_int (pa_cons (pe_callB call_len_seq (by rfl) T.m_len PySem.boot_len (pa_cons (pv 0) pa_nil)) pa_nil)))) pa_nil)) (pg_name (i := 5) sc_law.nd rfl (Or.inl rfl))
      (pss_cons (ps_set (i := 6) sc_law.nd rfl (Or.inl rfl) (pe_lst (pa_cons (pe_call G_law_draw hr (by rfl) T.g_law_draw T.F_law_draw.kp T.b_law_draw .nil pass0 (pa_cons (pv 1) (pa_cons pe_int pa_nil))) (pa_cons (pe_ix ix_list (pe_lst (pa_cons pe_int (pa_cons pe_int (pa_cons pe_int (pa_cons pe_int pa_nil))))) (pe_call G_law_draw hr (by rfl) T.g_law_draw T.F_law_draw.kp T.b_law_draw .nil pass0 (pa_cons (pv 1) (pa_cons pe_int pa_nil))) (fun _ _ => rfl)) pa_nil))))
      (pss_cons (ps_setLc (i := 7) (own := [("size", 19)]) (g := gName 19) (tt := tYes) rfl sc_law.nd rfl rfl (sw_true rfl rfl rfl (by decide +kernel)) (pi_list (pv 6)) (blkOk_by (N := ["script", "source", "made", "names", "values", "k", "sizes", "long", "calls", "some", "time", "layers", "first", "near", "door", "one", "other", "saved", "e", "size"]) (sc := defScope s_law) (by decide +kernel)) (fun _ _ _ _ _ => (pg_name (i := 19) sc_law.nd rfl (Or.inl rfl))) (fun _ _ _ _ _ => pts_nil) (fun _ _ _ _ _ => (pe_call G_flatten hr (by rfl) T.g_flatten T.F_flatten.kp T.b_flatten .nil pass0 (pa_cons (pe_lst (pa_cons (pe_tup (pa_cons (pe_call G_law_wait_drawn hr (by rfl) T.g_law_wait_drawn T.F_law_wait_drawn.kp T.b_law_wait_drawn .nil pass0 (pa_cons (pv 1) pa_nil)) (pa_cons (pe_callB (call_max2 rfl) (by rfl) T.m_max (by decide +kernel) (pa_cons pe_int (pa_cons (pv 19) pa_nil))) pa_nil))) pa_nil)) pa_nil))))
      (pss_cons (ps_set (i := 8) sc_law.nd rfl (Or.inl rfl) (pe_lst (pa_cons (pe_tup (pa_cons pe_int (pa_cons (pe_ix ix_list (pv 7) pe_int (fun _ _ => rfl)) (pa_cons (pe_ix ix_list (pv 7) pe_int (fun _ _ => rfl)) pa_nil)))) (pa_cons (pe_tup (pa_cons pe_int (pa_cons (pe_ix ix_list (pv 7) pe_int (fun _ _ => rfl)) (pa_cons (pe_call G_flatten hr (by rfl) T.g_flatten T.F_flatten.kp T.b_flatten .nil pass0 (pa_cons (pe_lst (pa_cons (pe_tup (pa_cons pe_int (pa_cons (pe_op op_add (pe_op op_fdivW pe_int (pe_ix ix_list (pv 6) pe_int (fun _ _ => rfl))) (pe_call G_law_draw hr (by rfl) T.g_law_draw T.F_law_draw.kp T.b_law_draw .nil pass0 (pa_cons (pv 1) (pa_cons pe_int pa_nil)))) pa_nil))) pa_nil)) pa_nil)) pa_nil)))) pa_nil))))
      (pss_cons (ps_set (i := 8) sc_law.nd rfl (Or.inl rfl) (pe_op op_cat (pv 8) (pe_call G_law_two_errors hr (by rfl) T.g_law_two_errors T.F_law_two_errors.kp T.b_law_two_errors .nil pass0 (pa_cons (pv 1) pa_nil))))
      (pss_cons (ps_setLc (i := 9) (own := [("time", 10)]) (g := gName 10) (tt := tYes) rfl sc_law.nd rfl rfl (sw_true rfl rfl rfl (by decide +kernel)) (pi_range1 (by rfl) T.m_range (pa_cons pe_int pa_nil)) (blkOk_by (N := ["script", "source", "made", "names", "values", "k", "sizes", "long", "calls", "some", "time", "layers", "first", "near", "door", "one", "other", "saved", "e", "size"]) (sc := defScope s_law) (by decide +kernel)) (fun _ _ _ _ _ => (pg_name (i := 10) sc_law.nd rfl (Or.inl rfl))) (fun _ _ _ _ _ => pts_nil) (fun _ _ _ _ _ => (pe_call G_law_spoilt_waits hr (by rfl) T.g_law_spoilt_waits T.F_law_spoilt_waits.kp T.b_law_spoilt_waits .nil pass0 (pa_cons (pv 1) (pa_cons (pe_call G_law_policy hr (by rfl) T.g_law_policy T.F_law_policy.kp T.b_law_policy .nil pass0 (pa_cons (pv 1) (pa_cons (pe_ix (ix_listK (K := K) rfl) (pe_lst (pa_cons pe_int (pa_cons pe_int pa_nil))) (pe_call G_law_draw hr (by rfl) T.g_law_draw T.F_law_draw.kp T.b_law_draw .nil pass0 (pa_cons (pv 1) (pa_cons pe_int pa_nil))) (fun _ _ => rfl)) pa_nil))) pa_nil)))))
      (pss_cons (ps_set (i := 8) sc_law.nd rfl (Or.inl rfl) (pe_op op_cat (pv 8) (pe_lst (pa_cons (pe_tup (pa_cons pe_int (pa_cons (pe_ix ix_list (pv 9) pe_int (fun _ _ => rfl)) (pa_cons (pe_ix ix_list (pv 9) pe_int (fun _ _ => rfl)) pa_nil)))) (pa_cons (pe_tup (pa_cons pe_int (pa_cons (pe_ix ix_list (pv 9) pe_int (fun _ _ => rfl)) (pa_cons (pe_ix ix_list (pv 9) pe_int (fun _ _ => rfl)) pa_nil)))) (pa_cons (pe_tup (pa_cons pe_int (pa_cons (pe_ix ix_list (pv 9) pe_int (fun _ _ => rfl)) (pa_cons (pe_ix ix_list (pv 7) pe_int (fun _ _ => rfl)) pa_nil)))) pa_nil))))))
      (pss_cons (ps_for PassesOwn.never rfl (pi_range1 (by rfl) T.m_range (pa_cons pe_int pa_nil)) (pg_name (i := 10) sc_law.nd rfl (Or.inl rfl))
      (pss_cons (ps_set (i := 11) sc_law.nd rfl (Or.inl rfl) (pe_call G_law_spoilt_layers hr (by rfl) T.g_law_spoilt_layers T.F_law_spoilt_layers.kp T.b_law_spoilt_layers .nil pass0 (pa_cons (pv 1) (pa_cons (pe_call G_law_nesting hr (by rfl) T.g_law_nesting T.F_law_nesting.kp T.b_law_nesting .nil pass0 (pa_cons (pv 1) (pa_cons pe_int (pa_cons pe_int pa_nil)))) pa_nil))))
      (pss_one (ps_set (i := 8) sc_law.nd rfl (Or.inl rfl) (pe_op op_cat (pv 8) (pe_lst (pa_cons (pe_tup (pa_cons pe_int (pa_cons (pv 11) (pa_cons pe_non pa_nil)))) (pa_cons (pe_tup (pa_cons pe_int (pa_cons (pv 11) (pa_cons pe_non pa_nil)))) pa_nil))))))))
      (pss_cons (ps_set (i := 12) sc_law.nd rfl (Or.inl rfl) (pe_op op_add pe_int (pe_call G_law_draw hr (by rfl) T.g_law_draw T.F_law_draw.kp T.b_law_draw .nil pass0 (pa_cons (pv 1) (pa_cons pe_int pa_nil)))))
      (pss_cons (ps_set (i := 13) sc_law.nd rfl (Or.inl rfl) (pe_lst (pa_cons (pe_tup (pa_cons pe_int (pa_cons (pv 12) pa_nil))) (pa_cons (pe_op op_rep (pe_lst (pa_cons pe_int pa_nil)) (pe_call G_law_draw hr (by rfl) T.g_law_draw T.F_law_draw.kp T.b_law_draw .nil pass0 (pa_cons (pv 1) (pa_cons pe_int pa_nil)))) (pa_cons (pe_tup (pa_cons pe_int (pa_cons (pe_op op_add (pe_op op_fdivW pe_int (pv 12)) (pe_call G_law_draw hr (by rfl) T.g_law_draw T.F_law_draw.kp T.b_law_draw .nil pass0 (pa_cons (pv 1) (pa_cons pe_int pa_nil)))) pa_nil))) pa_nil)))))
      (pss_cons (ps_set (i := 8) sc_law.nd rfl (Or.inl rfl) (pe_op op_cat (pv 8) (pe_lst (pa_cons (pe_tup (pa_cons pe_int (pa_cons (pv 13) (pa_cons pe_non pa_nil)))) (pa_cons (pe_tup (pa_cons pe_int (pa_cons (pe_op op_cat (pv 13) (pe_lst (pa_cons (pe_tup (pa_cons pe_int (pa_cons (pe_op op_pow pe_int pe_int) pa_nil))) pa_nil))) (pa_cons pe_non pa_nil)))) (pa_cons (pe_tup (pa_cons pe_int (pa_cons (pe_op op_cat (pv 13) (pe_lst (pa_cons (pe_tup (pa_cons pe_int (pa_cons (pe_op op_pow pe_int pe_int) pa_nil))) pa_nil))) (pa_cons pe_non pa_nil)))) pa_nil))))))
      (pss_one (ps_for PassesOwn.never rfl (pi_list (pv 8)) (pg_tup rfl (pgs_cons (pg_name (i := 14) sc_law.nd rfl (Or.inl rfl)) (pgs_cons (pg_name (i := 15) sc_law.nd rfl (Or.inl rfl)) (pgs_cons (pg_name (i := 16) sc_law.nd rfl (Or.inl rfl)) pgs_nil))))
      (pss_cons (ps_set (i := 17) sc_law.nd rfl (Or.inl rfl) (pe_callB (call_repr gu hr) (by rfl) T.m_repr (by decide +kernel) (pa_cons (pe_lst (pa_cons (pv 15) (pa_cons (pv 16) pa_nil))) pa_nil)))
      (pss_cons (ps_if (pt_not (pt_val (pe_call G_law_same hr (by rfl) T.g_law_same T.F_law_same.kp T.b_law_same .nil pass0 (pa_cons (pe_call G_law_raised hr (by rfl) T.g_law_raised T.F_law_raised.kp T.b_law_raised .nil pass0 (pa_cons (pv 14) (pa_cons (pv 15) (pa_cons (pv 16) pa_nil)))) (pa_cons (pe_call G_law_due hr (by rfl) T.g_law_due T.F_law_due.kp T.b_law_due .nil pass0 (pa_cons (pv 14) (pa_cons (pv 15) (pa_cons (pv 16) pa_nil)))) pa_nil)))))
      (pss_one (ps_ret pe_bl))
      pss_nil)
      (pss_one (ps_if (pt_cmpR op_ne (pe_callB (call_repr gu hr) (by rfl) T.m_repr (by decide +kernel) (pa_cons (pe_lst (pa_cons (pv 15) (pa_cons (pv 16) pa_nil))) pa_nil)) (pv 17) (nomark _))
      (pss_one (ps_ret pe_bl))
      pss_nil)))))))))))))))))
      (pss_one (ps_ret pe_bl)))))))))), ?_⟩
  refine ⟨_, rfl, sa, ns, rfl, hS, hl, fun H1 a d s1 _ _ S1 => ?_⟩
  refine ⟨_, rfl, fun d1 hd1 a1 ha1 => ?_⟩
  have X_H2 := (same_new (o := .xd [(("value" : Str), .int 0)]) hd1).trans (same_new (o := ErO (.ref T.C_InvalidWait) (some d1) a1) ha1)
  have E1 : IsErrT K T.C_InvalidWait a1 (.int 0) (upd (upd H1 d1 (.xd [(("value" : Str), .int 0)])) a1 (ErO (.ref T.C_InvalidWait) (some d1) a1)) := ⟨T.X_InvalidWait, d1, upd_same, same_new ha1 _ _ upd_same⟩
  generalize upd (upd H1 d1 (.xd [(("value" : Str), .int 0)])) a1 (ErO (.ref T.C_InvalidWait) (some d1) a1) = H2 at *
  have U_H2 := X_H2
  refine ⟨_, rfl, fun d2 hd2 a2 ha2 => ?_⟩
  have X_H3 := (same_new (o := .xd [(("value" : Str), .int 2)]) hd2).trans (same_new (o := ErO (.ref T.C_InvalidLayer) (some d2) a2) ha2)
  have E2 : IsErrT K T.C_InvalidLayer a2 (.int 2) (upd (upd H2 d2 (.xd [(("value" : Str), .int 2)])) a2 (ErO (.ref T.C_InvalidLayer) (some d2) a2)) := ⟨T.X_InvalidLayer, d2, upd_same, same_new ha2 _ _ upd_same⟩
  generalize upd (upd H2 d2 (.xd [(("value" : Str), .int 2)])) a2 (ErO (.ref T.C_InvalidLayer) (some d2) a2) = H3 at *
  have E1 := E1.same X_H3
  have U_H3 := U_H2.trans (X_H3)
  refine ⟨_, rfl, _, rfl, fun d3 hd3 a3 ha3 => ?_⟩
  have X_H4 := (same_new (o := .xd [(("value" : Str), .int (-1))]) hd3).trans (same_new (o := ErO (.ref T.C_InvalidNumber) (some d3) a3) ha3)
  have E3 : IsErrT K T.C_InvalidNumber a3 (.int (-1)) (upd (upd H3 d3 (.xd [(("value" : Str), .int (-1))])) a3 (ErO (.ref T.C_InvalidNumber) (some d3) a3)) := ⟨T.X_InvalidNumber, d3, upd_same, same_new ha3 _ _ upd_same⟩
  generalize upd (upd H3 d3 (.xd [(("value" : Str), .int (-1))])) a3 (ErO (.ref T.C_InvalidNumber) (some d3) a3) = H4 at *
  have E1 := E1.same X_H4
  have E2 := E2.same X_H4
  have U_H4 := U_H3.trans (X_H4)
  refine ⟨_, rfl, fun d4 hd4 a4 ha4 => ?_⟩
  have X_H5 := (same_new (o := .xd [(("value" : Str), .int 10001)]) hd4).trans (same_new (o := ErO (.ref T.C_TooManyAttempts) (some d4) a4) ha4)
  have E4 : IsErrT K T.C_TooManyAttempts a4 (.int 10001) (upd (upd H4 d4 (.xd [(("value" : Str), .int 10001)])) a4 (ErO (.ref T.C_TooManyAttempts) (some d4) a4)) := ⟨T.X_TooManyAttempts, d4, upd_same, same_new ha4 _ _ upd_same⟩
  generalize upd (upd H4 d4 (.xd [(("value" : Str), .int 10001)])) a4 (ErO (.ref T.C_TooManyAttempts) (some d4) a4) = H5 at *
  have E1 := E1.same X_H5
  have E2 := E2.same X_H5
  have E3 := E3.same X_H5
  have U_H5 := U_H4.trans (X_H5)
  refine ⟨_, rfl, fun d5 hd5 a5 ha5 => ?_⟩
  have X_H6 := (same_new (o := .xd [(("value" : Str), .int 3)]) hd5).trans (same_new (o := ErO (.ref T.C_NoMoreAttempts) (some d5) a5) ha5)
  have E5 : IsErrT K T.C_NoMoreAttempts a5 (.int 3) (upd (upd H5 d5 (.xd [(("value" : Str), .int 3)])) a5 (ErO (.ref T.C_NoMoreAttempts) (some d5) a5)) := ⟨T.X_NoMoreAttempts, d5, upd_same, same_new ha5 _ _ upd_same⟩
  generalize upd (upd H5 d5 (.xd [(("value" : Str), .int 3)])) a5 (ErO (.ref T.C_NoMoreAttempts) (some d5) a5) = H6 at *
  have E1 := E1.same X_H6
  have E2 := E2.same X_H6
  have E3 := E3.same X_H6
  have E4 := E4.same X_H6
  have U_H6 := U_H5.trans (X_H6)
  refine ⟨size_le (by show 5 ≤ 100000; decide), fun m1 hm1 => ?_⟩
  have X_H7 := same_new (o := .lst [.ref a1, .ref a2, .ref a3, .ref a4, .ref a5]) hm1
  have e_m1 := upd_same (H := H6) (a := m1) (o := .lst [.ref a1, .ref a2, .ref a3, .ref a4, .ref a5])
  generalize upd H6 m1 (.lst [.ref a1, .ref a2, .ref a3, .ref a4, .ref a5]) = H7 at *
  have E1 := E1.same X_H7
  have E2 := E2.same X_H7
  have E3 := E3.same X_H7
  have E4 := E4.same X_H7
  have E5 := E5.same X_H7
  have U_H7 := U_H6.trans (X_H7)
  refine ⟨_, rfl, _, rfl, fun d6 hd6 a6 ha6 => ?_⟩
  have X_H8 := (same_new (o := .xd [(("value" : Str), .str "x")]) hd6).trans (same_new (o := ErO (.ref T.C_Unreadable) (some d6) a6) ha6)
  have E6 : IsErrT K T.C_Unreadable a6 (.str "x") (upd (upd H7 d6 (.xd [(("value" : Str), .str "x")])) a6 (ErO (.ref T.C_Unreadable) (some d6) a6)) := ⟨T.X_Unreadable, d6, upd_same, same_new ha6 _ _ upd_same⟩
  generalize upd (upd H7 d6 (.xd [(("value" : Str), .str "x")])) a6 (ErO (.ref T.C_Unreadable) (some d6) a6) = H8 at *
  have E1 := E1.same X_H8
  have E2 := E2.same X_H8
  have E3 := E3.same X_H8
  have E4 := E4.same X_H8
  have E5 := E5.same X_H8
  have e_m1 := X_H8 _ _ e_m1
  have U_H8 := U_H7.trans (X_H8)
  refine ⟨_, rfl, fun d7 hd7 a7 ha7 => ?_⟩
  have X_H9 := (same_new (o := .xd [(("value" : Str), .int 0)]) hd7).trans (same_new (o := ErO (.ref T.C_InvalidWait) (some d7) a7) ha7)
  have E7 : IsErrT K T.C_InvalidWait a7 (.int 0) (upd (upd H8 d7 (.xd [(("value" : Str), .int 0)])) a7 (ErO (.ref T.C_InvalidWait) (some d7) a7)) := ⟨T.X_InvalidWait, d7, upd_same, same_new ha7 _ _ upd_same⟩
  generalize upd (upd H8 d7 (.xd [(("value" : Str), .int 0)])) a7 (ErO (.ref T.C_InvalidWait) (some d7) a7) = H9 at *
  have E1 := E1.same X_H9
  have E2 := E2.same X_H9
  have E3 := E3.same X_H9
  have E4 := E4.same X_H9
  have E5 := E5.same X_H9
  have e_m1 := X_H9 _ _ e_m1
  have E6 := E6.same X_H9
  have U_H9 := U_H8.trans (X_H9)
  refine ⟨_, rfl, fun d8 hd8 a8 ha8 => ?_⟩
  have X_H10 := (same_new (o := .xd [(("value" : Str), .int 2)]) hd8).trans (same_new (o := ErO (.ref T.C_InvalidLayer) (some d8) a8) ha8)
  have E8 : IsErrT K T.C_InvalidLayer a8 (.int 2) (upd (upd H9 d8 (.xd [(("value" : Str), .int 2)])) a8 (ErO (.ref T.C_InvalidLayer) (some d8) a8)) := ⟨T.X_InvalidLayer, d8, upd_same, same_new ha8 _ _ upd_same⟩
  generalize upd (upd H9 d8 (.xd [(("value" : Str), .int 2)])) a8 (ErO (.ref T.C_InvalidLayer) (some d8) a8) = H10 at *
  have E1 := E1.same X_H10
  have E2 := E2.same X_H10
  have E3 := E3.same X_H10
  have E4 := E4.same X_H10
  have E5 := E5.same X_H10
  have e_m1 := X_H10 _ _ e_m1
  have E6 := E6.same X_H10
  have E7 := E7.same X_H10
  have U_H10 := U_H9.trans (X_H10)
  refine ⟨_, rfl, _, rfl, fun d9 hd9 a9 ha9 => ?_⟩
  have X_H11 := (same_new (o := .xd [(("value" : Str), .int (-1))]) hd9).trans (same_new (o := ErO (.ref T.C_InvalidNumber) (some d9) a9) ha9)
  have E9 : IsErrT K T.C_InvalidNumber a9 (.int (-1)) (upd (upd H10 d9 (.xd [(("value" : Str), .int (-1))])) a9 (ErO (.ref T.C_InvalidNumber) (some d9) a9)) := ⟨T.X_InvalidNumber, d9, upd_same, same_new ha9 _ _ upd_same⟩
  generalize upd (upd H10 d9 (.xd [(("value" : Str), .int (-1))])) a9 (ErO (.ref T.C_InvalidNumber) (some d9) a9) = H11 at *
  have E1 := E1.same X_H11
  have E2 := E2.same X_H11
  have E3 := E3.same X_H11
  have E4 := E4.same X_H11
  have E5 := E5.same X_H11
  have e_m1 := X_H11 _ _ e_m1
  have E6 := E6.same X_H11
  have E7 := E7.same X_H11
  have E8 := E8.same X_H11
  have U_H11 := U_H10.trans (X_H11)
  refine ⟨size_le (by show 4 ≤ 100000; decide), fun m2 hm2 => ?_⟩
  have X_H12 := same_new (o := .lst [.ref a6, .ref a7, .ref a8, .ref a9]) hm2
  have e_m2 := upd_same (H := H11) (a := m2) (o := .lst [.ref a6, .ref a7, .ref a8, .ref a9])
  generalize upd H11 m2 (.lst [.ref a6, .ref a7, .ref a8, .ref a9]) = H12 at *
  have E1 := E1.same X_H12
  have E2 := E2.same X_H12
  have E3 := E3.same X_H12
  have E4 := E4.same X_H12
  have E5 := E5.same X_H12
  have e_m1 := X_H12 _ _ e_m1
  have E6 := E6.same X_H12
  have E7 := E7.same X_H12
  have E8 := E8.same X_H12
  have E9 := E9.same X_H12
  have U_H12 := U_H11.trans (X_H12)
  refine ⟨m1, m2, _, _, rfl, rfl, e_m1, e_m2, size_le (by show 9 ≤ 100000; decide), fun m3 hm3 => ?_⟩
  have X_H13 := same_new (o := .lst ([.ref a1, .ref a2, .ref a3, .ref a4, .ref a5] ++ [.ref a6, .ref a7, .ref a8, .ref a9])) hm3
  have e_m3 := upd_same (H := H12) (a := m3) (o := .lst ([.ref a1, .ref a2, .ref a3, .ref a4, .ref a5] ++ [.ref a6, .ref a7, .ref a8, .ref a9]))
  generalize upd H12 m3 (.lst ([.ref a1, .ref a2, .ref a3, .ref a4, .ref a5] ++ [.ref a6, .ref a7, .ref a8, .ref a9])) = H13 at *
  have E1 := E1.same X_H13
  have E2 := E2.same X_H13
  have E3 := E3.same X_H13
  have E4 := E4.same X_H13
  have E5 := E5.same X_H13
  have e_m1 := X_H13 _ _ e_m1
  have E6 := E6.same X_H13
  have E7 := E7.same X_H13
  have E8 := E8.same X_H13
  have E9 := E9.same X_H13
  have e_m2 := X_H13 _ _ e_m2
  have U_H13 := U_H12.trans (X_H13)
  refine ⟨_, rfl, _, rfl, fun d10 hd10 a10 ha10 => ?_⟩
  have X_H14 := (same_new (o := .xd [(("value" : Str), .int 10001)]) hd10).trans (same_new (o := ErO (.ref T.C_TooManyAttempts) (some d10) a10) ha10)
  have E10 : IsErrT K T.C_TooManyAttempts a10 (.int 10001) (upd (upd H13 d10 (.xd [(("value" : Str), .int 10001)])) a10 (ErO (.ref T.C_TooManyAttempts) (some d10) a10)) := ⟨T.X_TooManyAttempts, d10, upd_same, same_new ha10 _ _ upd_same⟩
  generalize upd (upd H13 d10 (.xd [(("value" : Str), .int 10001)])) a10 (ErO (.ref T.C_TooManyAttempts) (some d10) a10) = H14 at *
  have E1 := E1.same X_H14
  have E2 := E2.same X_H14
  have E3 := E3.same X_H14
  have E4 := E4.same X_H14
  have E5 := E5.same X_H14
  have e_m1 := X_H14 _ _ e_m1
  have E6 := E6.same X_H14
  have E7 := E7.same X_H14
  have E8 := E8.same X_H14
  have E9 := E9.same X_H14
  have e_m2 := X_H14 _ _ e_m2
  have e_m3 := X_H14 _ _ e_m3
  have U_H14 := U_H13.trans (X_H14)
  refine ⟨_, rfl, fun d11 hd11 a11 ha11 => ?_⟩
  have X_H15 := (same_new (o := .xd [(("value" : Str), .int 3)]) hd11).trans (same_new (o := ErO (.ref T.C_NoMoreAttempts) (some d11) a11) ha11)
  have E11 : IsErrT K T.C_NoMoreAttempts a11 (.int 3) (upd (upd H14 d11 (.xd [(("value" : Str), .int 3)])) a11 (ErO (.ref T.C_NoMoreAttempts) (some d11) a11)) := ⟨T.X_NoMoreAttempts, d11, upd_same, same_new ha11 _ _ upd_same⟩
  generalize upd (upd H14 d11 (.xd [(("value" : Str), .int 3)])) a11 (ErO (.ref T.C_NoMoreAttempts) (some d11) a11) = H15 at *
  have E1 := E1.same X_H15
  have E2 := E2.same X_H15
  have E3 := E3.same X_H15
  have E4 := E4.same X_H15
  have E5 := E5.same X_H15
  have e_m1 := X_H15 _ _ e_m1
  have E6 := E6.same X_H15
  have E7 := E7.same X_H15
  have E8 := E8.same X_H15
  have E9 := E9.same X_H15
  have e_m2 := X_H15 _ _ e_m2
  have e_m3 := X_H15 _ _ e_m3
  have E10 := E10.same X_H15
  have U_H15 := U_H14.trans (X_H15)
  refine ⟨_, rfl, fun d12 hd12 a12 ha12 => ?_⟩
  have X_H16 := (same_new (o := .xd [(("value" : Str), .str "x")]) hd12).trans (same_new (o := ErO (.ref T.C_Unreadable) (some d12) a12) ha12)
  have E12 : IsErrT K T.C_Unreadable a12 (.str "x") (upd (upd H15 d12 (.xd [(("value" : Str), .str "x")])) a12 (ErO (.ref T.C_Unreadable) (some d12) a12)) := ⟨T.X_Unreadable, d12, upd_same, same_new ha12 _ _ upd_same⟩
  generalize upd (upd H15 d12 (.xd [(("value" : Str), .str "x")])) a12 (ErO (.ref T.C_Unreadable) (some d12) a12) = H16 at *
  have E1 := E1.same X_H16
  have E2 := E2.same X_H16
  have E3 := E3.same X_H16
  have E4 := E4.same X_H16
  have E5 := E5.same X_H16
  have e_m1 := X_H16 _ _ e_m1
  have E6 := E6.same X_H16
  have E7 := E7.same X_H16
  have E8 := E8.same X_H16
  have E9 := E9.same X_H16
  have e_m2 := X_H16 _ _ e_m2
  have e_m3 := X_H16 _ _ e_m3
  have E10 := E10.same X_H16
  have E11 := E11.same X_H16
  have U_H16 := U_H15.trans (X_H16)
  refine ⟨size_le (by show 3 ≤ 100000; decide), fun m4 hm4 => ?_⟩
  have X_H17 := same_new (o := .lst [.ref a10, .ref a11, .ref a12]) hm4
  have e_m4 := upd_same (H := H16) (a := m4) (o := .lst [.ref a10, .ref a11, .ref a12])
  generalize upd H16 m4 (.lst [.ref a10, .ref a11, .ref a12]) = H17 at *
  have E1 := E1.same X_H17
  have E2 := E2.same X_H17
  have E3 := E3.same X_H17
  have E4 := E4.same X_H17
  have E5 := E5.same X_H17
  have e_m1 := X_H17 _ _ e_m1
  have E6 := E6.same X_H17
  have E7 := E7.same X_H17
  have E8 := E8.same X_H17
  have E9 := E9.same X_H17
  have e_m2 := X_H17 _ _ e_m2
  have e_m3 := X_H17 _ _ e_m3
  have E10 := E10.same X_H17
  have E11 := E11.same X_H17
  have E12 := E12.same X_H17
  have U_H17 := U_H16.trans (X_H17)
  refine ⟨m3, m4, _, _, rfl, rfl, e_m3, e_m4, size_le (by show 12 ≤ 100000; decide), fun mm hmm => ?_⟩
  have X_H18 := same_new (o := .lst (([.ref a1, .ref a2, .ref a3, .ref a4, .ref a5] ++ [.ref a6, .ref a7, .ref a8, .ref a9]) ++ [.ref a10, .ref a11, .ref a12])) hmm
  have e_mm := upd_same (H := H17) (a := mm) (o := .lst (([.ref a1, .ref a2, .ref a3, .ref a4, .ref a5] ++ [.ref a6, .ref a7, .ref a8, .ref a9]) ++ [.ref a10, .ref a11, .ref a12]))
  generalize upd H17 mm (.lst (([.ref a1, .ref a2, .ref a3, .ref a4, .ref a5] ++ [.ref a6, .ref a7, .ref a8, .ref a9]) ++ [.ref a10, .ref a11, .ref a12])) = H18 at *
  have E1 := E1.same X_H18
  have E2 := E2.same X_H18
  have E3 := E3.same X_H18
  have E4 := E4.same X_H18
  have E5 := E5.same X_H18
  have e_m1 := X_H18 _ _ e_m1
  have E6 := E6.same X_H18
  have E7 := E7.same X_H18
  have E8 := E8.same X_H18
  have E9 := E9.same X_H18
  have e_m2 := X_H18 _ _ e_m2
  have e_m3 := X_H18 _ _ e_m3
  have E10 := E10.same X_H18
  have E11 := E11.same X_H18
  have E12 := E12.same X_H18
  have e_m4 := X_H18 _ _ e_m4
  have U_H18 := U_H17.trans (X_H18)
  refine ⟨size_le (by show 6 ≤ 100000; decide), fun nl hnl => ?_⟩
  have X_H19 := same_new (o := .lst [.str "InvalidWait", .str "InvalidLayer", .str "InvalidNumber", .str "TooManyAttempts", .str "NoMoreAttempts", .str "Unreadable"]) hnl
  have e_nl := upd_same (H := H18) (a := nl) (o := .lst [.str "InvalidWait", .str "InvalidLayer", .str "InvalidNumber", .str "TooManyAttempts", .str "NoMoreAttempts", .str "Unreadable"])
  generalize upd H18 nl (.lst [.str "InvalidWait", .str "InvalidLayer", .str "InvalidNumber", .str "TooManyAttempts", .str "NoMoreAttempts", .str "Unreadable"]) = H19 at *
  have E1 := E1.same X_H19
  have E2 := E2.same X_H19
  have E3 := E3.same X_H19
  have E4 := E4.same X_H19
  have E5 := E5.same X_H19
  have e_m1 := X_H19 _ _ e_m1
  have E6 := E6.same X_H19
  have E7 := E7.same X_H19
  have E8 := E8.same X_H19
  have E9 := E9.same X_H19
  have e_m2 := X_H19 _ _ e_m2
  have e_m3 := X_H19 _ _ e_m3
  have E10 := E10.same X_H19
  have E11 := E11.same X_H19
  have E12 := E12.same X_H19
  have e_m4 := X_H19 _ _ e_m4
  have e_mm := X_H19 _ _ e_mm
  have U_H19 := U_H18.trans (X_H19)
  refine ⟨nl, 2, _, rfl, rfl, e_nl, by decide, by decide, size_le (by show 12 ≤ 100000; decide), fun nn hnn => ?_⟩
  have X_H20 := same_new (o := .lst (List.replicate (2 : Int).toNat ([.str "InvalidWait", .str "InvalidLayer", .str "InvalidNumber", .str "TooManyAttempts", .str "NoMoreAttempts", .str "Unreadable"] : List V)).flatten) hnn
  have e_nn := upd_same (H := H19) (a := nn) (o := .lst (List.replicate (2 : Int).toNat ([.str "InvalidWait", .str "InvalidLayer", .str "InvalidNumber", .str "TooManyAttempts", .str "NoMoreAttempts", .str "Unreadable"] : List V)).flatten)
  generalize upd H19 nn (.lst (List.replicate (2 : Int).toNat ([.str "InvalidWait", .str "InvalidLayer", .str "InvalidNumber", .str "TooManyAttempts", .str "NoMoreAttempts", .str "Unreadable"] : List V)).flatten) = H20 at *
  have E1 := E1.same X_H20
  have E2 := E2.same X_H20
  have E3 := E3.same X_H20
  have E4 := E4.same X_H20
  have E5 := E5.same X_H20
  have e_m1 := X_H20 _ _ e_m1
  have E6 := E6.same X_H20
  have E7 := E7.same X_H20
  have E8 := E8.same X_H20
  have E9 := E9.same X_H20
  have e_m2 := X_H20 _ _ e_m2
  have e_m3 := X_H20 _ _ e_m3
  have E10 := E10.same X_H20
  have E11 := E11.same X_H20
  have E12 := E12.same X_H20
  have e_m4 := X_H20 _ _ e_m4
  have e_mm := X_H20 _ _ e_mm
  have e_nl := X_H20 _ _ e_nl
  have U_H20 := U_H19.trans (X_H20)
  have e_nn : H20 nn = some (.lst ((rows6 ++ rows6).map fun r => V.str r.1)) := e_nn
  refine ⟨_, rfl, size_le (by show 6 ≤ 100000; decide), fun vl hvl => ?_⟩
  have X_H21 := same_new (o := .lst [.int 0, .int 2, .int (-1), .int 10001, .int 3, .str "x"]) hvl
  have e_vl := upd_same (H := H20) (a := vl) (o := .lst [.int 0, .int 2, .int (-1), .int 10001, .int 3, .str "x"])
  generalize upd H20 vl (.lst [.int 0, .int 2, .int (-1), .int 10001, .int 3, .str "x"]) = H21 at *
  have E1 := E1.same X_H21
  have E2 := E2.same X_H21
  have E3 := E3.same X_H21
  have E4 := E4.same X_H21
  have E5 := E5.same X_H21
  have e_m1 := X_H21 _ _ e_m1
  have E6 := E6.same X_H21
  have E7 := E7.same X_H21
  have E8 := E8.same X_H21
  have E9 := E9.same X_H21
  have e_m2 := X_H21 _ _ e_m2
  have e_m3 := X_H21 _ _ e_m3
  have E10 := E10.same X_H21
  have E11 := E11.same X_H21
  have E12 := E12.same X_H21
  have e_m4 := X_H21 _ _ e_m4
  have e_mm := X_H21 _ _ e_mm
  have e_nl := X_H21 _ _ e_nl
  have e_nn := X_H21 _ _ e_nn
  have U_H21 := U_H20.trans (X_H21)
  refine ⟨vl, 2, _, rfl, rfl, e_vl, by decide, by decide, size_le (by show 12 ≤ 100000; decide), fun vv hvv => ?_⟩
  have X_H22 := same_new (o := .lst (List.replicate (2 : Int).toNat ([.int 0, .int 2, .int (-1), .int 10001, .int 3, .str "x"] : List V)).flatten) hvv
  have e_vv := upd_same (H := H21) (a := vv) (o := .lst (List.replicate (2 : Int).toNat ([.int 0, .int 2, .int (-1), .int 10001, .int 3, .str "x"] : List V)).flatten)
  generalize upd H21 vv (.lst (List.replicate (2 : Int).toNat ([.int 0, .int 2, .int (-1), .int 10001, .int 3, .str "x"] : List V)).flatten) = H22 at *
  have E1 := E1.same X_H22
  have E2 := E2.same X_H22
  have E3 := E3.same X_H22
  have E4 := E4.same X_H22
  have E5 := E5.same X_H22
  have e_m1 := X_H22 _ _ e_m1
  have E6 := E6.same X_H22
  have E7 := E7.same X_H22
  have E8 := E8.same X_H22
  have E9 := E9.same X_H22
  have e_m2 := X_H22 _ _ e_m2
  have e_m3 := X_H22 _ _ e_m3
  have E10 := E10.same X_H22
  have E11 := E11.same X_H22
  have E12 := E12.same X_H22
  have e_m4 := X_H22 _ _ e_m4
  have e_mm := X_H22 _ _ e_mm
  have e_nl := X_H22 _ _ e_nl
  have e_nn := X_H22 _ _ e_nn
  have e_vl := X_H22 _ _ e_vl
  have U_H22 := U_H21.trans (X_H22)
  have e_vv : H22 vv = some (.lst ((rows6 ++ rows6).map fun r => r.2.1)) := e_vv
  have made : ∀ (i : Nat) (x : V), (([.ref a1, .ref a2, .ref a3, .ref a4, .ref a5] ++ [.ref a6, .ref a7, .ref a8, .ref a9]) ++ [.ref a10, .ref a11, .ref a12] : List V)[i]? = some x → ∃ (b D : Addr) (row : Str × V × PyData), x = .ref b ∧ rows12[i]? = some row ∧ IsErrT K D b row.2.1 H22 ∧ OwnIs T D row.1 := fun i x hx => by
    rcases i with _ | _ | _ | _ | _ | _ | _ | _ | _ | _ | _ | _ | i
    · cases hx; exact ⟨a1, _, _, rfl, rfl, E1, .inl ⟨rfl, rfl⟩⟩
    · cases hx; exact ⟨a2, _, _, rfl, rfl, E2, .inr (.inl ⟨rfl, rfl⟩)⟩
    · cases hx; exact ⟨a3, _, _, rfl, rfl, E3, .inr (.inr (.inl ⟨rfl, rfl⟩))⟩
    · cases hx; exact ⟨a4, _, _, rfl, rfl, E4, .inr (.inr (.inr (.inr (.inl ⟨rfl, rfl⟩))))⟩
    · cases hx; exact ⟨a5, _, _, rfl, rfl, E5, .inr (.inr (.inr (.inr (.inr ⟨rfl, rfl⟩))))⟩
    · cases hx; exact ⟨a6, _, _, rfl, rfl, E6, .inr (.inr (.inr (.inl ⟨rfl, rfl⟩)))⟩
    · cases hx; exact ⟨a7, _, _, rfl, rfl, E7, .inl ⟨rfl, rfl⟩⟩
    · cases hx; exact ⟨a8, _, _, rfl, rfl, E8, .inr (.inl ⟨rfl, rfl⟩)⟩
    · cases hx; exact ⟨a9, _, _, rfl, rfl, E9, .inr (.inr (.inl ⟨rfl, rfl⟩))⟩
    · cases hx; exact ⟨a10, _, _, rfl, rfl, E10, .inr (.inr (.inr (.inr (.inl ⟨rfl, rfl⟩))))⟩
    · cases hx; exact ⟨a11, _, _, rfl, rfl, E11, .inr (.inr (.inr (.inr (.inr ⟨rfl, rfl⟩))))⟩
    · cases hx; exact ⟨a12, _, _, rfl, rfl, E12, .inr (.inr (.inr (.inl ⟨rfl, rfl⟩)))⟩
    · cases hx
  refine ⟨_, rfl, mm, rfl, ⟨_, sql e_mm⟩, fun D1 hD1 => lc_list (xs := ([.ref a1, .ref a2, .ref a3, .ref a4, .ref a5] ++ [.ref a6, .ref a7, .ref a8, .ref a9]) ++ [.ref a10, .ref a11, .ref a12]) (fun i H' => Same H22 H' ∧ RowsAt H' D1 i) ⟨same_new hD1, RowsAt.nil⟩ (fun i H' _ h => sql (h.1 _ _ e_mm)) (fun i x H' hx h => ?_) (fun H' h => ?_)⟩
  · obtain ⟨sm, ra⟩ := h
    obtain ⟨b, D, row, rfl, hrow, hE, hO⟩ := made i x hx
    have i12 : i < 12 := (List.getElem?_eq_some_iff.mp hx).1
    refine ⟨rfl, _, rfl, b, D, row.2.1, row.1, rfl, hE.same sm, hO, fun H4 r s4 hr4 => ?_⟩
    obtain ⟨acc, p1, p2, p3⟩ := ra.push s4 hr4 hrow
    exact ⟨acc, p1, size_lt (by omega), same_keep (sm.trans s4) hD1, p3⟩
  obtain ⟨sm, ra⟩ := h
  have ra12 : RowsAt H' D1 12 := ra
  refine ⟨_, rfl, by decide, by decide, fun D2 hD2 => lc_range (lo := 0) (n := _) (fun i H2 => Same H' H2 ∧ RowsAt H2 D2 i) ⟨same_new hD2, RowsAt.nil⟩ (fun i H2 hi h => ?_) (fun HA h => ?_)⟩
  · obtain ⟨sm2, rb⟩ := h
    have i12 : i < 12 := hi
    obtain ⟨row, hrow, g1, g2⟩ := rows_get i i12
    have gi : (0 : Int) + (i : Int) = ((i : Nat) : Int) := Int.zero_add _
    refine ⟨rfl, _, rfl, _, rfl, nn, _, _, .str row.1, rfl, rfl, sql ((sm.trans sm2) _ _ e_nn), (by rw [gi]; exact atI_nat g1), _, rfl, _, rfl, vv, _, _, row.2.1, rfl, rfl, sql ((sm.trans sm2) _ _ e_vv), (by rw [gi]; exact atI_nat g2), size_le (by show 3 ≤ 100000; decide), fun r hr4 => ?_⟩
    obtain ⟨acc, p1, p2, p3⟩ := rb.push (same_new (o := .lst [.str row.1, row.2.1, .bl true]) hr4) (show upd H2 r (.lst [.str row.1, row.2.1, .bl true]) r = some (.lst (rowV row)) from upd_same) hrow
    exact ⟨acc, p1, size_lt (by omega), same_keep (sm2.trans (same_new hr4)) hD2, p3⟩
  obtain ⟨sm2, rb⟩ := h
  have rb12 : RowsAt HA D2 12 := rb
  refine ⟨_, _, (ra12.same sm2).dp, rb12.dp, rows_ok.2, rows_ok.2, _, rfl, ?_⟩
  rw [eqv_refl' _ rows_ok.1]
  have S2 := S1.same ((U_H22.trans sm).trans sm2)
  have s2 := s1.trans ((U_H22.trans sm).trans sm2)
  refine iteF ?_
  clear made ra ra12 rb rb12 sm sm2 E1 E2 E3 E4 E5 e_m1 E6 E7 E8 E9 e_m2 e_m3 E10 E11 E12 e_m4 e_mm e_nl e_nn e_vl e_vv
  have hlen : (ns.map V.int).length ≤ 63 := by rw [List.length_map]; exact hl
  have hmin : ∀ z : Int, (if z < 8 then z else 8) ≤ 8 := fun z => by split <;> omega
  have hmin0 : 0 ≤ (if (((ns.map V.int).length : Nat) : Int) < 8 then (((ns.map V.int).length : Nat) : Int) else 8) := by split <;> omega
  have hm1 := hmin (((ns.map V.int).length : Nat) : Int)
  refine ⟨_, rfl, sa, _, rfl, .inl (s2.seq hS), _, _, rfl, _, _, rfl, rfl, _, rfl, by omega, by omega, ?_⟩
  refine for_range (lo := 0) (n := (3 + (if (((ns.map V.int).length : Nat) : Int) < 8 then (((ns.map V.int).length : Nat) : Int) else 8)).toNat)
    (fun i σ H' => (∃ y2 y3 y4 y5 y6 y7 y8 y9 y10 y11 y12 y13 y14 y15 y16 y17 y18 y19, σ = [some (.ref sa), some (.ref a), y2, y3, y4, y5, y6, y7, y8, y9, y10, y11, y12, y13, y14, y15, y16, y17, y18, y19]) ∧ Adv a d (100000 * i) HA H') ⟨⟨_, _, _, _, _, _, _, _, _, _, _, _, _, _, _, _, _, _, rfl⟩, Adv.refl⟩ (fun i σ H0 hi h => ?_) (fun σ H' h => ?_)
  · obtain ⟨⟨y2, y3, y4, y5, y6, y7, y8, y9, y10, y11, y12, y13, y14, y15, y16, y17, y18, y19, rfl⟩, A0⟩ := h
    have hi' : (i : Int) < 11 := by omega
    have S0 := A0.src 0 S2
    have C0 : Adv a d 0 H0 H0 := Adv.refl
    refine ⟨_, rfl, a, d, _, 130, rfl, S0, by omega, by first | omega | decide, by first | omega | decide, fun H201 r0 A_H201 l_r0 u_r0 => ?_⟩
    have C_H201 := C0.trans A_H201 (Int.le_refl _)
    have S_H201 := A_H201.src _ S0
    refine ⟨size_le (by show 4 ≤ 100000; decide), fun os hos => ?_⟩
    have nn_os := S_H201.new1 hos
    have A_H202 : Adv a d 0 H201 (upd H201 os (.lst [.int 100, .int 101, .int 77, .int 129])) := Adv.of (same_new hos)
    have e_os : hid a d (upd H201 os (.lst [.int 100, .int 101, .int 77, .int 129])) os = some (.lst [.int 100, .int 101, .int 77, .int 129]) := by rw [hid_oth nn_os.1 nn_os.2, upd_same]
    generalize upd H201 os (.lst [.int 100, .int 101, .int 77, .int 129]) = H202 at *
    have C_H202 := C_H201.trans A_H202 (Int.le_refl _)
    have S_H202 := A_H202.src _ S_H201
    have e_os : hid a d H202 os = some (.lst (([100, 101, 77, 129] : List Int).map V.int)) := e_os
    refine ⟨_, rfl, a, d, _, 4, rfl, S_H202, by omega, by first | omega | decide, by first | omega | decide, fun H203 r1 A_H203 l_r1 u_r1 => ?_⟩
    have C_H203 := C_H202.trans A_H203 (Int.le_refl _)
    have S_H203 := A_H203.src _ S_H202
    have e_os := A_H203.same _ _ e_os
    obtain ⟨m, hm, _, hat⟩ := at_int (ns := [100, 101, 77, 129]) l_r1 u_r1
    have hmb : 77 ≤ m ∧ m ≤ 129 := by simp at hm; omega
    have hq : 77 ≤ 10000 / m ∧ 10000 / m ≤ 129 := by simp at hm; rcases hm with rfl | rfl | rfl | rfl <;> decide
    refine ⟨os, _, r1, .int m, rfl, rfl, sql (hid_get e_os).1, hat, size_le (by show 2 ≤ 100000; decide), fun sz hsz => ?_⟩
    have nn_sz := S_H203.new1 hsz
    have A_H204 : Adv a d 0 H203 (upd H203 sz (.lst [.int r0, .int m])) := Adv.of (same_new hsz)
    have e_sz : hid a d (upd H203 sz (.lst [.int r0, .int m])) sz = some (.lst [.int r0, .int m]) := by rw [hid_oth nn_sz.1 nn_sz.2, upd_same]
    generalize upd H203 sz (.lst [.int r0, .int m]) = H204 at *
    have C_H204 := C_H203.trans A_H204 (Int.le_refl _)
    have S_H204 := A_H204.src _ S_H203
    have e_os := A_H204.same _ _ e_os
    refine ⟨_, rfl, sz, rfl, ⟨_, sql (hid_get e_sz).1⟩, fun DL hDL => ?_⟩
    have nDL := S_H204.new1 hDL
    refine lc_list (xs := [.int r0, .int m]) (fun j H' => Adv a d (20 * j) H204 H' ∧ PolsAt (hid a d H') DL j) ⟨(Adv.of (same_new hDL)).mono (by omega), by rw [hid_oth nDL.1 nDL.2]; exact PolsAt.nil⟩ (fun j H' _ h => sql (hid_get (h.1.same _ _ e_sz)).1) (fun j x H300 hx h => ?_) (fun H400 h => ?_)
    · obtain ⟨A300, pa⟩ := h
      have hj2 : j < 2 := (List.getElem?_eq_some_iff.mp hx).1
      obtain ⟨z, rfl, zb⟩ : ∃ z, x = .int z ∧ z ≤ 130 := by
        rcases j with _ | _ | j
        · cases hx; exact ⟨_, rfl, by omega⟩
        · cases hx; exact ⟨_, rfl, by omega⟩
        · cases hx
      have S300 := A300.src _ S_H204
      refine ⟨rfl, _, rfl, a, d, _, rfl, S300, by omega, fun H301 wt A_H301 l_wt u_wt => ?_⟩
      have C_H301 := A300.trans A_H301 (Int.le_refl _)
      have S_H301 := A_H301.src _ S300
      have pa := pa.same A_H301.same
      obtain ⟨mx, hmx, mb⟩ : ∃ mx, (if z > 1 then z else 1) = mx ∧ 1 ≤ mx ∧ mx ≤ 130 := ⟨_, rfl, by split <;> omega⟩
      refine ⟨_, rfl, _, _, rfl, size_le (by show 2 ≤ 100000; decide), ?_⟩
      rw [hmx]
      refine fun tl htl => ?_
      have nn_tl := S_H301.new1 htl
      have A_H302 : Adv a d 0 H301 (upd H301 tl (.tup [.int wt, .int mx])) := Adv.of (same_new htl)
      have e_tl : hid a d (upd H301 tl (.tup [.int wt, .int mx])) tl = some (.tup [.int wt, .int mx]) := by rw [hid_oth nn_tl.1 nn_tl.2, upd_same]
      generalize upd H301 tl (.tup [.int wt, .int mx]) = H302 at *
      have C_H302 := C_H301.trans A_H302 (Int.le_refl _)
      have S_H302 := A_H302.src _ S_H301
      have pa := pa.same A_H302.same
      refine ⟨size_le (by show 1 ≤ 100000; decide), fun ll hll => ?_⟩
      have nn_ll := S_H302.new1 hll
      have A_H303 : Adv a d 0 H302 (upd H302 ll (.lst [.ref tl])) := Adv.of (same_new hll)
      have e_ll : hid a d (upd H302 ll (.lst [.ref tl])) ll = some (.lst [.ref tl]) := by rw [hid_oth nn_ll.1 nn_ll.2, upd_same]
      generalize upd H302 ll (.lst [.ref tl]) = H303 at *
      have C_H303 := C_H302.trans A_H303 (Int.le_refl _)
      have S_H303 := A_H303.src _ S_H302
      have e_tl := A_H303.same _ _ e_tl
      have pa := pa.same A_H303.same
      refine ⟨ll, [.con wt mx], rfl, nest_of (hid_get e_ll).1 (.cons ⟨tl, rfl, (hid_get e_tl).1⟩ .nil), con_okL (by omega) (by omega), (by show 1 ≤ 5000; decide), (by show (1 : Int) * mx ≤ 10000; omega), fun H304 lg s_H304 h_lg e_lg => ?_⟩
      rw [flatL_con (by omega) (by omega)] at e_lg
      have A_H304 := Adv.of (a := a) (d := d) s_H304
      have e_lg := hid_at e_lg (S_H303.new1 h_lg).1 (S_H303.new1 h_lg).2
      have ne : lg ≠ DL := by obtain ⟨_, e, _⟩ := pa; exact ne_hidV e h_lg
      have C_H304 := C_H303.trans A_H304 (Int.le_refl _)
      have S_H304 := A_H304.src _ S_H303
      have e_tl := A_H304.same _ _ e_tl
      have e_ll := A_H304.same _ _ e_ll
      have pa := pa.same A_H304.same
      obtain ⟨acc, x1, x2, x3⟩ := pa.push nDL.1 nDL.2 (pol_rep e_lg (by omega) (by omega)) ne
      exact ⟨acc, x1, size_lt (by omega), (C_H304.mut S_H204 hDL).mono (by omega), x3⟩
    obtain ⟨A_H400, pl⟩ := h
    have A_H400 := A_H400.mono (e := 40) (by show (20 : Int) * ((2 : Nat) : Int) ≤ 40; decide)
    obtain ⟨p0, p1, e_DL, P0, P1⟩ := PolsAt.two pl
    have C_H400 := C_H204.trans A_H400 (Int.le_refl _)
    have S_H400 := A_H400.src _ S_H204
    have e_os := A_H400.same _ _ e_os
    have e_sz := A_H400.same _ _ e_sz
    refine ⟨_, rfl, DL, _, 0, .ref p0, rfl, rfl, sql (hid_get e_DL).1, rfl, _, rfl, DL, _, 1, .ref p1, rfl, rfl, sql (hid_get e_DL).1, rfl, size_le (by show 3 ≤ 100000; decide), fun t1 h1 => ?_⟩
    have nn_t1 := S_H400.new1 h1
    have A_H205 : Adv a d 0 H400 (upd H400 t1 (.tup [.int 0, .ref p0, .ref p1])) := Adv.of (same_new h1)
    have e_t1 : hid a d (upd H400 t1 (.tup [.int 0, .ref p0, .ref p1])) t1 = some (.tup [.int 0, .ref p0, .ref p1]) := by rw [hid_oth nn_t1.1 nn_t1.2, upd_same]
    generalize upd H400 t1 (.tup [.int 0, .ref p0, .ref p1]) = H205 at *
    have C_H205 := C_H400.trans A_H205 (Int.le_refl _)
    have S_H205 := A_H205.src _ S_H400
    have e_os := A_H205.same _ _ e_os
    have e_sz := A_H205.same _ _ e_sz
    have e_DL := A_H205.same _ _ e_DL
    have P0 := P0.same A_H205.same
    have P1 := P1.same A_H205.same
    refine ⟨_, rfl, DL, _, 1, .ref p1, rfl, rfl, sql (hid_get e_DL).1, rfl, _, rfl, sz, _, 1, .int m, rfl, rfl, sql (hid_get e_sz).1, rfl, _, _, rfl, rfl, wide_div (b := 20) (by omega) (by omega) (by decide) (by decide), _, rfl, a, d, _, 2, rfl, S_H205, by omega, by decide, by decide, fun H206 r3 A_H206 l_r3 u_r3 => ⟨_, _, rfl, rfl, ?_⟩⟩
    have C_H206 := C_H205.trans A_H206 (Int.le_refl _)
    have S_H206 := A_H206.src _ S_H205
    have e_os := A_H206.same _ _ e_os
    have e_sz := A_H206.same _ _ e_sz
    have e_DL := A_H206.same _ _ e_DL
    have e_t1 := A_H206.same _ _ e_t1
    have P0 := P0.same A_H206.same
    have P1 := P1.same A_H206.same
    generalize 10000 / m = qd at *
    refine ⟨size_le (by show 2 ≤ 100000; decide), fun tq htq => ?_⟩
    have nn_tq := S_H206.new1 htq
    have A_H207 : Adv a d 0 H206 (upd H206 tq (.tup [.int 5, .int (qd + r3)])) := Adv.of (same_new htq)
    have e_tq : hid a d (upd H206 tq (.tup [.int 5, .int (qd + r3)])) tq = some (.tup [.int 5, .int (qd + r3)]) := by rw [hid_oth nn_tq.1 nn_tq.2, upd_same]
    generalize upd H206 tq (.tup [.int 5, .int (qd + r3)]) = H207 at *
    have C_H207 := C_H206.trans A_H207 (Int.le_refl _)
    have S_H207 := A_H207.src _ S_H206
    have e_os := A_H207.same _ _ e_os
    have e_sz := A_H207.same _ _ e_sz
    have e_DL := A_H207.same _ _ e_DL
    have e_t1 := A_H207.same _ _ e_t1
    have P0 := P0.same A_H207.same
    have P1 := P1.same A_H207.same
    refine ⟨size_le (by show 1 ≤ 100000; decide), fun lq hlq => ?_⟩
    have nn_lq := S_H207.new1 hlq
    have A_H208 : Adv a d 0 H207 (upd H207 lq (.lst [.ref tq])) := Adv.of (same_new hlq)
    have e_lq : hid a d (upd H207 lq (.lst [.ref tq])) lq = some (.lst [.ref tq]) := by rw [hid_oth nn_lq.1 nn_lq.2, upd_same]
    generalize upd H207 lq (.lst [.ref tq]) = H208 at *
    have C_H208 := C_H207.trans A_H208 (Int.le_refl _)
    have S_H208 := A_H208.src _ S_H207
    have e_os := A_H208.same _ _ e_os
    have e_sz := A_H208.same _ _ e_sz
    have e_DL := A_H208.same _ _ e_DL
    have e_t1 := A_H208.same _ _ e_t1
    have e_tq := A_H208.same _ _ e_tq
    have P0 := P0.same A_H208.same
    have P1 := P1.same A_H208.same
    refine ⟨lq, [.con 5 (qd + r3)], rfl, nest_of (hid_get e_lq).1 (.cons ⟨tq, rfl, (hid_get e_tq).1⟩ .nil), con_okL (by omega) (by omega), (by show 1 ≤ 5000; decide), (by show (1 : Int) * (qd + r3) ≤ 10000; omega), fun H209 lh s_H209 h_lh e_lh => ?_⟩
    rw [flatL_con (by omega) (by omega)] at e_lh
    have A_H209 := Adv.of (a := a) (d := d) s_H209
    have e_lh := hid_at e_lh (S_H208.new1 h_lh).1 (S_H208.new1 h_lh).2
    have C_H209 := C_H208.trans A_H209 (Int.le_refl _)
    have S_H209 := A_H209.src _ S_H208
    have e_os := A_H209.same _ _ e_os
    have e_sz := A_H209.same _ _ e_sz
    have e_DL := A_H209.same _ _ e_DL
    have e_t1 := A_H209.same _ _ e_t1
    have e_tq := A_H209.same _ _ e_tq
    have e_lq := A_H209.same _ _ e_lq
    have P0 := P0.same A_H209.same
    have P1 := P1.same A_H209.same
    refine ⟨size_le (by show 3 ≤ 100000; decide), fun t2 h2 => ?_⟩
    have nn_t2 := S_H209.new1 h2
    have A_H210 : Adv a d 0 H209 (upd H209 t2 (.tup [.int 0, .ref p1, .ref lh])) := Adv.of (same_new h2)
    have e_t2 : hid a d (upd H209 t2 (.tup [.int 0, .ref p1, .ref lh])) t2 = some (.tup [.int 0, .ref p1, .ref lh]) := by rw [hid_oth nn_t2.1 nn_t2.2, upd_same]
    generalize upd H209 t2 (.tup [.int 0, .ref p1, .ref lh]) = H210 at *
    have C_H210 := C_H209.trans A_H210 (Int.le_refl _)
    have S_H210 := A_H210.src _ S_H209
    have e_os := A_H210.same _ _ e_os
    have e_sz := A_H210.same _ _ e_sz
    have e_DL := A_H210.same _ _ e_DL
    have e_t1 := A_H210.same _ _ e_t1
    have e_tq := A_H210.same _ _ e_tq
    have e_lq := A_H210.same _ _ e_lq
    have e_lh := A_H210.same _ _ e_lh
    have P0 := P0.same A_H210.same
    have P1 := P1.same A_H210.same
    refine ⟨size_le (by show 2 ≤ 100000; decide), fun c1 hc1 => ?_⟩
    have nn_c1 := S_H210.new1 hc1
    have A_H211 : Adv a d 0 H210 (upd H210 c1 (.lst [.ref t1, .ref t2])) := Adv.of (same_new hc1)
    have e_c1 : hid a d (upd H210 c1 (.lst [.ref t1, .ref t2])) c1 = some (.lst [.ref t1, .ref t2]) := by rw [hid_oth nn_c1.1 nn_c1.2, upd_same]
    generalize upd H210 c1 (.lst [.ref t1, .ref t2]) = H211 at *
    have C_H211 := C_H210.trans A_H211 (Int.le_refl _)
    have S_H211 := A_H211.src _ S_H210
    have e_os := A_H211.same _ _ e_os
    have e_sz := A_H211.same _ _ e_sz
    have e_DL := A_H211.same _ _ e_DL
    have e_t1 := A_H211.same _ _ e_t1
    have e_tq := A_H211.same _ _ e_tq
    have e_lq := A_H211.same _ _ e_lq
    have e_lh := A_H211.same _ _ e_lh
    have e_t2 := A_H211.same _ _ e_t2
    have P0 := P0.same A_H211.same
    have P1 := P1.same A_H211.same
    refine ⟨_, rfl, _, rfl, a, d, _, rfl, S_H211, by omega, fun H212 r2 us2 A_H212 f2 e_r2 n2 K2 => ?_⟩
    have K2 : AskL (hid a d H212) us2 := K2
    have C_H212 := C_H211.trans A_H212 (Int.le_refl _)
    have S_H212 := A_H212.src _ S_H211
    have e_os := A_H212.same _ _ e_os
    have e_sz := A_H212.same _ _ e_sz
    have e_DL := A_H212.same _ _ e_DL
    have e_t1 := A_H212.same _ _ e_t1
    have e_tq := A_H212.same _ _ e_tq
    have e_lq := A_H212.same _ _ e_lq
    have e_lh := A_H212.same _ _ e_lh
    have e_t2 := A_H212.same _ _ e_t2
    have e_c1 := A_H212.same _ _ e_c1
    have P0 := P0.same A_H212.same
    have P1 := P1.same A_H212.same
    refine ⟨c1, r2, _, _, rfl, rfl, (hid_get e_c1).1, (hid_get e_r2).1, size_le (by show 2 + us2.length ≤ 100000; omega), fun c2 hc2 => ?_⟩
    have nn_c2 := S_H212.new1 hc2
    have A_H213 : Adv a d 0 H212 (upd H212 c2 (.lst ([.ref t1, .ref t2] ++ us2))) := Adv.of (same_new hc2)
    have e_c2 : hid a d (upd H212 c2 (.lst ([.ref t1, .ref t2] ++ us2))) c2 = some (.lst ([.ref t1, .ref t2] ++ us2)) := by rw [hid_oth nn_c2.1 nn_c2.2, upd_same]
    generalize upd H212 c2 (.lst ([.ref t1, .ref t2] ++ us2)) = H213 at *
    have C_H213 := C_H212.trans A_H213 (Int.le_refl _)
    have S_H213 := A_H213.src _ S_H212
    have e_os := A_H213.same _ _ e_os
    have e_sz := A_H213.same _ _ e_sz
    have e_DL := A_H213.same _ _ e_DL
    have e_t1 := A_H213.same _ _ e_t1
    have e_tq := A_H213.same _ _ e_tq
    have e_lq := A_H213.same _ _ e_lq
    have e_lh := A_H213.same _ _ e_lh
    have e_t2 := A_H213.same _ _ e_t2
    have e_c1 := A_H213.same _ _ e_c1
    have e_r2 := A_H213.same _ _ e_r2
    have P0 := P0.same A_H213.same
    have P1 := P1.same A_H213.same
    have K2 := K2.same A_H213.same
    have B2 : CallsAt (hid a d H213) c2 7 := ⟨_, e_c2, by rw [List.length_append, n2]; exact Nat.le_refl 7, AskL.app (.cons (.pols e_t1 P0 P1) (.cons (.pols e_t2 P1 (pol_rep e_lh (by omega) (by decide))) .nil)) K2⟩
    clear e_os e_t1 e_tq e_lq e_lh e_t2 e_c1 e_r2 e_sz e_c2 K2 hat hm
    refine ⟨_, rfl, by decide, by decide, fun DS hDS => ?_⟩
    have nDS := S_H213.new1 hDS
    refine lc_range (lo := 0) (n := _) (fun j H' => Adv a d (1000 * j) H213 H' ∧ PolsAt (hid a d H') DS j) ⟨(Adv.of (same_new hDS)).mono (by omega), by rw [hid_oth nDS.1 nDS.2]; exact PolsAt.nil⟩ (fun j H500 hj h => ?_) (fun H600 h => ?_)
    · obtain ⟨A500, pa⟩ := h
      have hj' : j < 4 := by omega
      have S500 := A500.src _ S_H213
      refine ⟨rfl, _, rfl, _, rfl, size_le (by show 2 ≤ 100000; decide), fun oo hoo => ?_⟩
      have nn_oo := S500.new1 hoo
      have A_H501 : Adv a d 0 H500 (upd H500 oo (.lst [.int 2, .int 60])) := Adv.of (same_new hoo)
      have e_oo : hid a d (upd H500 oo (.lst [.int 2, .int 60])) oo = some (.lst [.int 2, .int 60]) := by rw [hid_oth nn_oo.1 nn_oo.2, upd_same]
      generalize upd H500 oo (.lst [.int 2, .int 60]) = H501 at *
      have C_H501 := A500.trans A_H501 (Int.le_refl _)
      have S_H501 := A_H501.src _ S500
      have pa := pa.same A_H501.same
      have e_oo : hid a d H501 oo = some (.lst (([2, 60] : List Int).map V.int)) := e_oo
      refine ⟨_, rfl, a, d, _, 2, rfl, S_H501, by omega, by first | omega | decide, by first | omega | decide, fun H502 ro A_H502 l_ro u_ro => ?_⟩
      have C_H502 := C_H501.trans A_H502 (Int.le_refl _)
      have S_H502 := A_H502.src _ S_H501
      have e_oo := A_H502.same _ _ e_oo
      have pa := pa.same A_H502.same
      obtain ⟨mo, hmo, _, hato⟩ := at_int (ns := [2, 60]) l_ro u_ro
      have hmob : 2 ≤ mo ∧ mo ≤ 60 := by simp at hmo; omega
      refine ⟨oo, _, ro, .int mo, rfl, rfl, sql (hid_get e_oo).1, hato, a, d, _, mo, rfl, S_H502, by omega, by omega, by omega, fun H503 pp ws A_H503 f_pp e_pp l_pp b_pp => ?_⟩
      have C_H503 := C_H502.trans A_H503 (Int.le_refl _)
      have S_H503 := A_H503.src _ S_H502
      have e_oo := A_H503.same _ _ e_oo
      have pa := pa.same A_H503.same
      refine ⟨a, d, pp, _, ws, rfl, S_H503, by omega, (hid_get e_pp).1, by omega, (fun x hx => by have := b_pp x hx; omega), fun H504 rr zs A_H504 f_rr e_rr l_rr b_rr => ?_⟩
      have ne : rr ≠ DS := by obtain ⟨_, e, _⟩ := pa; exact ne_hidV e f_rr
      have C_H504 := C_H503.trans A_H504 (Int.le_refl _)
      have S_H504 := A_H504.src _ S_H503
      have e_oo := A_H504.same _ _ e_oo
      have e_pp := A_H504.same _ _ e_pp
      have pa := pa.same A_H504.same
      obtain ⟨acc, x1, x2, x3⟩ := pa.push nDS.1 nDS.2 ⟨zs, e_rr, by omega, fun z hz => by have := b_rr z hz; omega⟩ ne
      exact ⟨acc, x1, size_lt (by omega), (C_H504.mut S_H213 hDS).mono (by omega), x3⟩
    obtain ⟨A_H600, ps⟩ := h
    have A_H600 := A_H600.mono (e := 4000) (by show (1000 : Int) * ((4 : Nat) : Int) ≤ 4000; decide)
    obtain ⟨q0, q1, q2, q3, e_DS, Q0, Q1, Q2, Q3⟩ := PolsAt.four ps
    have C_H600 := C_H213.trans A_H600 (Int.le_refl _)
    have S_H600 := A_H600.src _ S_H213
    have e_DL := A_H600.same _ _ e_DL
    have P0 := P0.same A_H600.same
    have P1 := P1.same A_H600.same
    have B2 := B2.same A_H600.same
    obtain ⟨us3, e_u3, l_u3, K3⟩ := B2
    refine ⟨_, rfl, _, rfl, DS, _, 0, .ref q0, rfl, rfl, sql (hid_get e_DS).1, rfl, _, rfl, DS, _, 1, .ref q1, rfl, rfl, sql (hid_get e_DS).1, rfl, size_le (by show 3 ≤ 100000; decide), fun t3 h3 => ?_⟩
    have nn_t3 := S_H600.new1 h3
    have A_H214 : Adv a d 0 H600 (upd H600 t3 (.tup [.int 0, .ref q0, .ref q1])) := Adv.of (same_new h3)
    have e_t3 : hid a d (upd H600 t3 (.tup [.int 0, .ref q0, .ref q1])) t3 = some (.tup [.int 0, .ref q0, .ref q1]) := by rw [hid_oth nn_t3.1 nn_t3.2, upd_same]
    generalize upd H600 t3 (.tup [.int 0, .ref q0, .ref q1]) = H214 at *
    have C_H214 := C_H600.trans A_H214 (Int.le_refl _)
    have S_H214 := A_H214.src _ S_H600
    have e_DL := A_H214.same _ _ e_DL
    have e_DS := A_H214.same _ _ e_DS
    have e_u3 := A_H214.same _ _ e_u3
    have P0 := P0.same A_H214.same
    have P1 := P1.same A_H214.same
    have Q0 := Q0.same A_H214.same
    have Q1 := Q1.same A_H214.same
    have Q2 := Q2.same A_H214.same
    have Q3 := Q3.same A_H214.same
    have K3 := K3.same A_H214.same
    refine ⟨_, rfl, DS, _, 2, .ref q2, rfl, rfl, sql (hid_get e_DS).1, rfl, _, rfl, DS, _, 3, .ref q3, rfl, rfl, sql (hid_get e_DS).1, rfl, size_le (by show 3 ≤ 100000; decide), fun t4 h4 => ?_⟩
    have nn_t4 := S_H214.new1 h4
    have A_H215 : Adv a d 0 H214 (upd H214 t4 (.tup [.int 0, .ref q2, .ref q3])) := Adv.of (same_new h4)
    have e_t4 : hid a d (upd H214 t4 (.tup [.int 0, .ref q2, .ref q3])) t4 = some (.tup [.int 0, .ref q2, .ref q3]) := by rw [hid_oth nn_t4.1 nn_t4.2, upd_same]
    generalize upd H214 t4 (.tup [.int 0, .ref q2, .ref q3]) = H215 at *
    have C_H215 := C_H214.trans A_H215 (Int.le_refl _)
    have S_H215 := A_H215.src _ S_H214
    have e_DL := A_H215.same _ _ e_DL
    have e_DS := A_H215.same _ _ e_DS
    have e_u3 := A_H215.same _ _ e_u3
    have e_t3 := A_H215.same _ _ e_t3
    have P0 := P0.same A_H215.same
    have P1 := P1.same A_H215.same
    have Q0 := Q0.same A_H215.same
    have Q1 := Q1.same A_H215.same
    have Q2 := Q2.same A_H215.same
    have Q3 := Q3.same A_H215.same
    have K3 := K3.same A_H215.same
    refine ⟨_, rfl, DS, _, 1, .ref q1, rfl, rfl, sql (hid_get e_DS).1, rfl, _, rfl, DL, _, 0, .ref p0, rfl, rfl, sql (hid_get e_DL).1, rfl, size_le (by show 3 ≤ 100000; decide), fun t5 h5 => ?_⟩
    have nn_t5 := S_H215.new1 h5
    have A_H216 : Adv a d 0 H215 (upd H215 t5 (.tup [.int 0, .ref q1, .ref p0])) := Adv.of (same_new h5)
    have e_t5 : hid a d (upd H215 t5 (.tup [.int 0, .ref q1, .ref p0])) t5 = some (.tup [.int 0, .ref q1, .ref p0]) := by rw [hid_oth nn_t5.1 nn_t5.2, upd_same]
    generalize upd H215 t5 (.tup [.int 0, .ref q1, .ref p0]) = H216 at *
    have C_H216 := C_H215.trans A_H216 (Int.le_refl _)
    have S_H216 := A_H216.src _ S_H215
    have e_DL := A_H216.same _ _ e_DL
    have e_DS := A_H216.same _ _ e_DS
    have e_u3 := A_H216.same _ _ e_u3
    have e_t3 := A_H216.same _ _ e_t3
    have e_t4 := A_H216.same _ _ e_t4
    have P0 := P0.same A_H216.same
    have P1 := P1.same A_H216.same
    have Q0 := Q0.same A_H216.same
    have Q1 := Q1.same A_H216.same
    have Q2 := Q2.same A_H216.same
    have Q3 := Q3.same A_H216.same
    have K3 := K3.same A_H216.same
    refine ⟨size_le (by show 3 ≤ 100000; decide), fun l3 hl3 => ?_⟩
    have nn_l3 := S_H216.new1 hl3
    have A_H217 : Adv a d 0 H216 (upd H216 l3 (.lst [.ref t3, .ref t4, .ref t5])) := Adv.of (same_new hl3)
    have e_l3 : hid a d (upd H216 l3 (.lst [.ref t3, .ref t4, .ref t5])) l3 = some (.lst [.ref t3, .ref t4, .ref t5]) := by rw [hid_oth nn_l3.1 nn_l3.2, upd_same]
    generalize upd H216 l3 (.lst [.ref t3, .ref t4, .ref t5]) = H217 at *
    have C_H217 := C_H216.trans A_H217 (Int.le_refl _)
    have S_H217 := A_H217.src _ S_H216
    have e_DL := A_H217.same _ _ e_DL
    have e_DS := A_H217.same _ _ e_DS
    have e_u3 := A_H217.same _ _ e_u3
    have e_t3 := A_H217.same _ _ e_t3
    have e_t4 := A_H217.same _ _ e_t4
    have e_t5 := A_H217.same _ _ e_t5
    have P0 := P0.same A_H217.same
    have P1 := P1.same A_H217.same
    have Q0 := Q0.same A_H217.same
    have Q1 := Q1.same A_H217.same
    have Q2 := Q2.same A_H217.same
    have Q3 := Q3.same A_H217.same
    have K3 := K3.same A_H217.same
    refine ⟨c2, l3, _, _, rfl, rfl, (hid_get e_u3).1, (hid_get e_l3).1, size_le (by show us3.length + 3 ≤ 100000; omega), fun c3 hc3 => ?_⟩
    have nn_c3 := S_H217.new1 hc3
    have A_H218 : Adv a d 0 H217 (upd H217 c3 (.lst (us3 ++ [.ref t3, .ref t4, .ref t5]))) := Adv.of (same_new hc3)
    have e_c3 : hid a d (upd H217 c3 (.lst (us3 ++ [.ref t3, .ref t4, .ref t5]))) c3 = some (.lst (us3 ++ [.ref t3, .ref t4, .ref t5])) := by rw [hid_oth nn_c3.1 nn_c3.2, upd_same]
    generalize upd H217 c3 (.lst (us3 ++ [.ref t3, .ref t4, .ref t5])) = H218 at *
    have C_H218 := C_H217.trans A_H218 (Int.le_refl _)
    have S_H218 := A_H218.src _ S_H217
    have e_DL := A_H218.same _ _ e_DL
    have e_DS := A_H218.same _ _ e_DS
    have e_u3 := A_H218.same _ _ e_u3
    have e_t3 := A_H218.same _ _ e_t3
    have e_t4 := A_H218.same _ _ e_t4
    have e_t5 := A_H218.same _ _ e_t5
    have e_l3 := A_H218.same _ _ e_l3
    have P0 := P0.same A_H218.same
    have P1 := P1.same A_H218.same
    have Q0 := Q0.same A_H218.same
    have Q1 := Q1.same A_H218.same
    have Q2 := Q2.same A_H218.same
    have Q3 := Q3.same A_H218.same
    have K3 := K3.same A_H218.same
    have B3 : CallsAt (hid a d H218) c3 10 := ⟨_, e_c3, by rw [List.length_append]; show us3.length + 3 ≤ 10; omega, K3.app (.cons (.pols e_t3 Q0 Q1) (.cons (.pols e_t4 Q2 Q3) (.cons (.pols e_t5 Q1 P0) .nil)))⟩
    clear e_DL e_DS e_u3 e_t3 e_t4 e_t5 e_l3 e_c3 K3 P0 P1 Q0 Q1 Q2 Q3 pl ps
    refine ⟨_, rfl, by decide, by decide, ?_⟩
    refine for_range (lo := 0) (n := 3) (fun j σ H' => ∃ y2 y3 y4 y5 y6 y7 y9 y10 y11 y12 y13 y14 y15 y16 y17 y18 y19 c, σ = [some (.ref sa), some (.ref a), y2, y3, y4, y5, y6, y7, some (.ref c), y9, y10, y11, y12, y13, y14, y15, y16, y17, y18, y19] ∧ Adv a d (5000 * j) H218 H' ∧ CallsAt (hid a d H') c (10 + 2 * j)) ⟨_, _, _, _, _, _, _, _, _, _, _, _, _, _, _, _, _, c3, rfl, Adv.refl, B3⟩ (fun j σ H700 hj h => ?_) (fun σ H800 h => ?_)
    · obtain ⟨y2, y3, y4, y5, y6, y7, y9, y10, y11, y12, y13, y14, y15, y16, y17, y18, y19, c, rfl, A700, us, e_c, l_c, Kc⟩ := h
      have hj' : j < 3 := by omega
      have S700 := A700.src _ S_H218
      refine ⟨_, rfl, _, rfl, a, d, _, 6, 900, rfl, S700, by omega, by decide, by decide, by decide, by decide, fun H701 pn vs Ls A_H701 f_pn nv l_pn nice _ => ?_⟩
      have C_H701 := A700.trans A_H701 (Int.le_refl _)
      have S_H701 := A_H701.src _ S700
      have e_c := A_H701.same _ _ e_c
      have Kc := Kc.same A_H701.same
      refine ⟨a, d, pn, _, vs, Ls, rfl, S_H701, by omega, nv.1, nv.lays, by omega, (fun L hL => (nice L hL).seen), fun H702 rn ws Ms A_H702 f_rn e_rn lays l_rn seen => ?_⟩
      have C_H702 := C_H701.trans A_H702 (Int.le_refl _)
      have S_H702 := A_H702.src _ S_H701
      have e_c := A_H702.same _ _ e_c
      have Kc := Kc.same A_H702.same
      refine ⟨_, rfl, _, rfl, size_le (by show 3 ≤ 100000; decide), fun u1 g1 => ?_⟩
      have nn_u1 := S_H702.new1 g1
      have A_H703 : Adv a d 0 H702 (upd H702 u1 (.tup [.int 1, .ref rn, .non])) := Adv.of (same_new g1)
      have e_u1 : hid a d (upd H702 u1 (.tup [.int 1, .ref rn, .non])) u1 = some (.tup [.int 1, .ref rn, .non]) := by rw [hid_oth nn_u1.1 nn_u1.2, upd_same]
      generalize upd H702 u1 (.tup [.int 1, .ref rn, .non]) = H703 at *
      have C_H703 := C_H702.trans A_H703 (Int.le_refl _)
      have S_H703 := A_H703.src _ S_H702
      have e_c := A_H703.same _ _ e_c
      have e_rn := A_H703.same _ _ e_rn
      have Kc := Kc.same A_H703.same
      have lays := lays.same A_H703.same
      refine ⟨_, rfl, size_le (by show 3 ≤ 100000; decide), fun u2 g2 => ?_⟩
      have nn_u2 := S_H703.new1 g2
      have A_H704 : Adv a d 0 H703 (upd H703 u2 (.tup [.int 2, .ref rn, .non])) := Adv.of (same_new g2)
      have e_u2 : hid a d (upd H703 u2 (.tup [.int 2, .ref rn, .non])) u2 = some (.tup [.int 2, .ref rn, .non]) := by rw [hid_oth nn_u2.1 nn_u2.2, upd_same]
      generalize upd H703 u2 (.tup [.int 2, .ref rn, .non]) = H704 at *
      have C_H704 := C_H703.trans A_H704 (Int.le_refl _)
      have S_H704 := A_H704.src _ S_H703
      have e_c := A_H704.same _ _ e_c
      have e_rn := A_H704.same _ _ e_rn
      have e_u1 := A_H704.same _ _ e_u1
      have Kc := Kc.same A_H704.same
      have lays := lays.same A_H704.same
      refine ⟨size_le (by show 2 ≤ 100000; decide), fun u3 g3 => ?_⟩
      have nn_u3 := S_H704.new1 g3
      have A_H705 : Adv a d 0 H704 (upd H704 u3 (.lst [.ref u1, .ref u2])) := Adv.of (same_new g3)
      have e_u3 : hid a d (upd H704 u3 (.lst [.ref u1, .ref u2])) u3 = some (.lst [.ref u1, .ref u2]) := by rw [hid_oth nn_u3.1 nn_u3.2, upd_same]
      generalize upd H704 u3 (.lst [.ref u1, .ref u2]) = H705 at *
      have C_H705 := C_H704.trans A_H705 (Int.le_refl _)
      have S_H705 := A_H705.src _ S_H704
      have e_c := A_H705.same _ _ e_c
      have e_rn := A_H705.same _ _ e_rn
      have e_u1 := A_H705.same _ _ e_u1
      have e_u2 := A_H705.same _ _ e_u2
      have Kc := Kc.same A_H705.same
      have lays := lays.same A_H705.same
      refine ⟨c, u3, _, _, rfl, rfl, (hid_get e_c).1, (hid_get e_u3).1, size_le (by show us.length + 2 ≤ 100000; omega), fun cc g4 => ?_⟩
      have nn_cc := S_H705.new1 g4
      have A_H706 : Adv a d 0 H705 (upd H705 cc (.lst (us ++ [.ref u1, .ref u2]))) := Adv.of (same_new g4)
      have e_cc : hid a d (upd H705 cc (.lst (us ++ [.ref u1, .ref u2]))) cc = some (.lst (us ++ [.ref u1, .ref u2])) := by rw [hid_oth nn_cc.1 nn_cc.2, upd_same]
      generalize upd H705 cc (.lst (us ++ [.ref u1, .ref u2])) = H706 at *
      have C_H706 := C_H705.trans A_H706 (Int.le_refl _)
      have S_H706 := A_H706.src _ S_H705
      have e_c := A_H706.same _ _ e_c
      have e_rn := A_H706.same _ _ e_rn
      have e_u1 := A_H706.same _ _ e_u1
      have e_u2 := A_H706.same _ _ e_u2
      have e_u3 := A_H706.same _ _ e_u3
      have Kc := Kc.same A_H706.same
      have lays := lays.same A_H706.same
      exact ⟨_, _, _, _, _, _, _, _, _, _, _, _, _, _, _, _, _, cc, rfl, C_H706.mono (by omega), _, e_cc, by rw [List.length_append]; show us.length + 2 ≤ _; omega, Kc.app (.cons (.one e_u1 (.inl rfl) (lays.nest e_rn) (by omega) seen) (.cons (.one e_u2 (.inr rfl) (lays.nest e_rn) (by omega) seen) .nil))⟩
    obtain ⟨y2', y3', y4', y5', y6', y7', y9', y10', y11', y12', y13', y14', y15', y16', y17', y18', y19', c, rfl, A_H800, us, e_c, l_c, Kc⟩ := h
    have C_H800 := C_H218.trans A_H800 (Int.le_refl _)
    have S_H800 := A_H800.src _ S_H218
    have l_c16 : us.length ≤ 16 := l_c
    refine ⟨_, rfl, a, d, _, 200, rfl, S_H800, by omega, by first | omega | decide, by first | omega | decide, fun H219 rf A_H219 l_rf u_rf => ?_⟩
    have C_H219 := C_H800.trans A_H219 (Int.le_refl _)
    have S_H219 := A_H219.src _ S_H800
    have e_c := A_H219.same _ _ e_c
    have Kc := Kc.same A_H219.same
    refine ⟨_, _, rfl, rfl, ?_⟩
    refine ⟨_, rfl, size_le (by show 2 ≤ 100000; decide), fun n1 g1 => ?_⟩
    have nn_n1 := S_H219.new1 g1
    have A_H220 : Adv a d 0 H219 (upd H219 n1 (.tup [.int 1, .int (1 + rf)])) := Adv.of (same_new g1)
    have e_n1 : hid a d (upd H219 n1 (.tup [.int 1, .int (1 + rf)])) n1 = some (.tup [.int 1, .int (1 + rf)]) := by rw [hid_oth nn_n1.1 nn_n1.2, upd_same]
    generalize upd H219 n1 (.tup [.int 1, .int (1 + rf)]) = H220 at *
    have C_H220 := C_H219.trans A_H220 (Int.le_refl _)
    have S_H220 := A_H220.src _ S_H219
    have e_c := A_H220.same _ _ e_c
    have Kc := Kc.same A_H220.same
    refine ⟨size_le (by show 1 ≤ 100000; decide), fun b1 g2 => ?_⟩
    have nn_b1 := S_H220.new1 g2
    have A_H221 : Adv a d 0 H220 (upd H220 b1 (.lst [.int 2])) := Adv.of (same_new g2)
    have e_b1 : hid a d (upd H220 b1 (.lst [.int 2])) b1 = some (.lst [.int 2]) := by rw [hid_oth nn_b1.1 nn_b1.2, upd_same]
    generalize upd H220 b1 (.lst [.int 2]) = H221 at *
    have C_H221 := C_H220.trans A_H221 (Int.le_refl _)
    have S_H221 := A_H221.src _ S_H220
    have e_c := A_H221.same _ _ e_c
    have e_n1 := A_H221.same _ _ e_n1
    have Kc := Kc.same A_H221.same
    refine ⟨_, rfl, a, d, _, 3, rfl, S_H221, by omega, by first | omega | decide, by first | omega | decide, fun H222 rk A_H222 l_rk u_rk => ?_⟩
    have C_H222 := C_H221.trans A_H222 (Int.le_refl _)
    have S_H222 := A_H222.src _ S_H221
    have e_c := A_H222.same _ _ e_c
    have e_n1 := A_H222.same _ _ e_n1
    have e_b1 := A_H222.same _ _ e_b1
    have Kc := Kc.same A_H222.same
    refine ⟨b1, rk, _, rfl, rfl, (hid_get e_b1).1, by omega, by omega, size_le (by show 1 * rk.toNat ≤ 100000; omega), fun b2 g3 => ?_⟩
    have nn_b2 := S_H222.new1 g3
    have A_H223 : Adv a d 0 H222 (upd H222 b2 (.lst (List.replicate rk.toNat [V.int 2]).flatten)) := Adv.of (same_new g3)
    have e_b2 : hid a d (upd H222 b2 (.lst (List.replicate rk.toNat [V.int 2]).flatten)) b2 = some (.lst (List.replicate rk.toNat [V.int 2]).flatten) := by rw [hid_oth nn_b2.1 nn_b2.2, upd_same]
    generalize upd H222 b2 (.lst (List.replicate rk.toNat [V.int 2]).flatten) = H223 at *
    have C_H223 := C_H222.trans A_H223 (Int.le_refl _)
    have S_H223 := A_H223.src _ S_H222
    have e_c := A_H223.same _ _ e_c
    have e_n1 := A_H223.same _ _ e_n1
    have e_b1 := A_H223.same _ _ e_b1
    have Kc := Kc.same A_H223.same
    rw [rep_flat, show List.replicate rk.toNat (V.int 2) = (List.replicate rk.toNat (2 : Int)).map V.int from List.map_replicate.symm] at e_b2
    have fb : 0 ≤ 10000 / (1 + rf) ∧ 10000 / (1 + rf) ≤ 10000 := ⟨Int.ediv_nonneg (by decide) (by omega), Int.ediv_le_self _ (by decide)⟩
    refine ⟨_, rfl, _, _, rfl, rfl, wide_div (b := 20) (by omega) (by omega) (by decide) (by decide), _, rfl, a, d, _, 3, rfl, S_H223, by omega, by decide, by decide, fun H224 rz A_H224 l_rz u_rz => ⟨_, _, rfl, rfl, ?_⟩⟩
    have C_H224 := C_H223.trans A_H224 (Int.le_refl _)
    have S_H224 := A_H224.src _ S_H223
    have e_c := A_H224.same _ _ e_c
    have e_n1 := A_H224.same _ _ e_n1
    have e_b1 := A_H224.same _ _ e_b1
    have e_b2 := A_H224.same _ _ e_b2
    have Kc := Kc.same A_H224.same
    generalize 10000 / (1 + rf) = fq at *
    refine ⟨size_le (by show 2 ≤ 100000; decide), fun n3 g4 => ?_⟩
    have nn_n3 := S_H224.new1 g4
    have A_H225 : Adv a d 0 H224 (upd H224 n3 (.tup [.int 3, .int (fq + rz)])) := Adv.of (same_new g4)
    have e_n3 : hid a d (upd H224 n3 (.tup [.int 3, .int (fq + rz)])) n3 = some (.tup [.int 3, .int (fq + rz)]) := by rw [hid_oth nn_n3.1 nn_n3.2, upd_same]
    generalize upd H224 n3 (.tup [.int 3, .int (fq + rz)]) = H225 at *
    have C_H225 := C_H224.trans A_H225 (Int.le_refl _)
    have S_H225 := A_H225.src _ S_H224
    have e_c := A_H225.same _ _ e_c
    have e_n1 := A_H225.same _ _ e_n1
    have e_b1 := A_H225.same _ _ e_b1
    have e_b2 := A_H225.same _ _ e_b2
    have Kc := Kc.same A_H225.same
    refine ⟨size_le (by show 3 ≤ 100000; decide), fun nr g5 => ?_⟩
    have nn_nr := S_H225.new1 g5
    have A_H226 : Adv a d 0 H225 (upd H225 nr (.lst [.ref n1, .ref b2, .ref n3])) := Adv.of (same_new g5)
    have e_nr : hid a d (upd H225 nr (.lst [.ref n1, .ref b2, .ref n3])) nr = some (.lst [.ref n1, .ref b2, .ref n3]) := by rw [hid_oth nn_nr.1 nn_nr.2, upd_same]
    generalize upd H225 nr (.lst [.ref n1, .ref b2, .ref n3]) = H226 at *
    have C_H226 := C_H225.trans A_H226 (Int.le_refl _)
    have S_H226 := A_H226.src _ S_H225
    have e_c := A_H226.same _ _ e_c
    have e_n1 := A_H226.same _ _ e_n1
    have e_b1 := A_H226.same _ _ e_b1
    have e_b2 := A_H226.same _ _ e_b2
    have e_n3 := A_H226.same _ _ e_n3
    have Kc := Kc.same A_H226.same
    refine ⟨_, rfl, _, rfl, size_le (by show 3 ≤ 100000; decide), fun w1 g6 => ?_⟩
    have nn_w1 := S_H226.new1 g6
    have A_H227 : Adv a d 0 H226 (upd H226 w1 (.tup [.int 2, .ref nr, .non])) := Adv.of (same_new g6)
    have e_w1 : hid a d (upd H226 w1 (.tup [.int 2, .ref nr, .non])) w1 = some (.tup [.int 2, .ref nr, .non]) := by rw [hid_oth nn_w1.1 nn_w1.2, upd_same]
    generalize upd H226 w1 (.tup [.int 2, .ref nr, .non]) = H227 at *
    have C_H227 := C_H226.trans A_H227 (Int.le_refl _)
    have S_H227 := A_H227.src _ S_H226
    have e_c := A_H227.same _ _ e_c
    have e_n1 := A_H227.same _ _ e_n1
    have e_b1 := A_H227.same _ _ e_b1
    have e_b2 := A_H227.same _ _ e_b2
    have e_n3 := A_H227.same _ _ e_n3
    have e_nr := A_H227.same _ _ e_nr
    have Kc := Kc.same A_H227.same
    refine ⟨_, rfl, _, _, rfl, rfl, ⟨by decide, by decide, by decide⟩, size_le (by show 2 ≤ 100000; decide), fun za1 g7 => ?_⟩
    have nn_za1 := S_H227.new1 g7
    have A_H228 : Adv a d 0 H227 (upd H227 za1 (.tup [.int 0, (fun i j : Int => V.int (i ^ j.toNat)) 10 19])) := Adv.of (same_new g7)
    have e_za1 : hid a d (upd H227 za1 (.tup [.int 0, (fun i j : Int => V.int (i ^ j.toNat)) 10 19])) za1 = some (.tup [.int 0, (fun i j : Int => V.int (i ^ j.toNat)) 10 19]) := by rw [hid_oth nn_za1.1 nn_za1.2, upd_same]
    generalize upd H227 za1 (.tup [.int 0, (fun i j : Int => V.int (i ^ j.toNat)) 10 19]) = H228 at *
    have C_H228 := C_H227.trans A_H228 (Int.le_refl _)
    have S_H228 := A_H228.src _ S_H227
    have e_c := A_H228.same _ _ e_c
    have e_n1 := A_H228.same _ _ e_n1
    have e_b1 := A_H228.same _ _ e_b1
    have e_b2 := A_H228.same _ _ e_b2
    have e_n3 := A_H228.same _ _ e_n3
    have e_nr := A_H228.same _ _ e_nr
    have e_w1 := A_H228.same _ _ e_w1
    have Kc := Kc.same A_H228.same
    have e_za1 : hid a d H228 za1 = some (.tup [.int 0, .int 10000000000000000000]) := e_za1
    refine ⟨size_le (by show 1 ≤ 100000; decide), fun za2 g8 => ?_⟩
    have nn_za2 := S_H228.new1 g8
    have A_H229 : Adv a d 0 H228 (upd H228 za2 (.lst [.ref za1])) := Adv.of (same_new g8)
    have e_za2 : hid a d (upd H228 za2 (.lst [.ref za1])) za2 = some (.lst [.ref za1]) := by rw [hid_oth nn_za2.1 nn_za2.2, upd_same]
    generalize upd H228 za2 (.lst [.ref za1]) = H229 at *
    have C_H229 := C_H228.trans A_H229 (Int.le_refl _)
    have S_H229 := A_H229.src _ S_H228
    have e_c := A_H229.same _ _ e_c
    have e_n1 := A_H229.same _ _ e_n1
    have e_b1 := A_H229.same _ _ e_b1
    have e_b2 := A_H229.same _ _ e_b2
    have e_n3 := A_H229.same _ _ e_n3
    have e_nr := A_H229.same _ _ e_nr
    have e_w1 := A_H229.same _ _ e_w1
    have e_za1 := A_H229.same _ _ e_za1
    have Kc := Kc.same A_H229.same
    refine ⟨nr, za2, _, _, rfl, rfl, (hid_get e_nr).1, (hid_get e_za2).1, size_le (by show 4 ≤ 100000; decide), fun za3 g9 => ?_⟩
    have nn_za3 := S_H229.new1 g9
    have A_H230 : Adv a d 0 H229 (upd H229 za3 (.lst ([.ref n1, .ref b2, .ref n3] ++ [.ref za1]))) := Adv.of (same_new g9)
    have e_za3 : hid a d (upd H229 za3 (.lst ([.ref n1, .ref b2, .ref n3] ++ [.ref za1]))) za3 = some (.lst ([.ref n1, .ref b2, .ref n3] ++ [.ref za1])) := by rw [hid_oth nn_za3.1 nn_za3.2, upd_same]
    generalize upd H229 za3 (.lst ([.ref n1, .ref b2, .ref n3] ++ [.ref za1])) = H230 at *
    have C_H230 := C_H229.trans A_H230 (Int.le_refl _)
    have S_H230 := A_H230.src _ S_H229
    have e_c := A_H230.same _ _ e_c
    have e_n1 := A_H230.same _ _ e_n1
    have e_b1 := A_H230.same _ _ e_b1
    have e_b2 := A_H230.same _ _ e_b2
    have e_n3 := A_H230.same _ _ e_n3
    have e_nr := A_H230.same _ _ e_nr
    have e_w1 := A_H230.same _ _ e_w1
    have e_za1 := A_H230.same _ _ e_za1
    have e_za2 := A_H230.same _ _ e_za2
    have Kc := Kc.same A_H230.same
    refine ⟨size_le (by show 3 ≤ 100000; decide), fun za4 g10 => ?_⟩
    have nn_za4 := S_H230.new1 g10
    have A_H231 : Adv a d 0 H230 (upd H230 za4 (.tup [.int 2, .ref za3, .non])) := Adv.of (same_new g10)
    have e_za4 : hid a d (upd H230 za4 (.tup [.int 2, .ref za3, .non])) za4 = some (.tup [.int 2, .ref za3, .non]) := by rw [hid_oth nn_za4.1 nn_za4.2, upd_same]
    generalize upd H230 za4 (.tup [.int 2, .ref za3, .non]) = H231 at *
    have C_H231 := C_H230.trans A_H231 (Int.le_refl _)
    have S_H231 := A_H231.src _ S_H230
    have e_c := A_H231.same _ _ e_c
    have e_n1 := A_H231.same _ _ e_n1
    have e_b1 := A_H231.same _ _ e_b1
    have e_b2 := A_H231.same _ _ e_b2
    have e_n3 := A_H231.same _ _ e_n3
    have e_nr := A_H231.same _ _ e_nr
    have e_w1 := A_H231.same _ _ e_w1
    have e_za1 := A_H231.same _ _ e_za1
    have e_za2 := A_H231.same _ _ e_za2
    have e_za3 := A_H231.same _ _ e_za3
    have Kc := Kc.same A_H231.same
    refine ⟨_, rfl, _, _, rfl, rfl, ⟨by decide, by decide, by decide⟩, size_le (by show 2 ≤ 100000; decide), fun zb1 g12 => ?_⟩
    have nn_zb1 := S_H231.new1 g12
    have A_H232 : Adv a d 0 H231 (upd H231 zb1 (.tup [.int 0, (fun i j : Int => V.int (i ^ j.toNat)) 10 19])) := Adv.of (same_new g12)
    have e_zb1 : hid a d (upd H231 zb1 (.tup [.int 0, (fun i j : Int => V.int (i ^ j.toNat)) 10 19])) zb1 = some (.tup [.int 0, (fun i j : Int => V.int (i ^ j.toNat)) 10 19]) := by rw [hid_oth nn_zb1.1 nn_zb1.2, upd_same]
    generalize upd H231 zb1 (.tup [.int 0, (fun i j : Int => V.int (i ^ j.toNat)) 10 19]) = H232 at *
    have C_H232 := C_H231.trans A_H232 (Int.le_refl _)
    have S_H232 := A_H232.src _ S_H231
    have e_c := A_H232.same _ _ e_c
    have e_n1 := A_H232.same _ _ e_n1
    have e_b1 := A_H232.same _ _ e_b1
    have e_b2 := A_H232.same _ _ e_b2
    have e_n3 := A_H232.same _ _ e_n3
    have e_nr := A_H232.same _ _ e_nr
    have e_w1 := A_H232.same _ _ e_w1
    have e_za1 := A_H232.same _ _ e_za1
    have e_za2 := A_H232.same _ _ e_za2
    have e_za3 := A_H232.same _ _ e_za3
    have e_za4 := A_H232.same _ _ e_za4
    have Kc := Kc.same A_H232.same
    have e_zb1 : hid a d H232 zb1 = some (.tup [.int 0, .int 10000000000000000000]) := e_zb1
    refine ⟨size_le (by show 1 ≤ 100000; decide), fun zb2 g13 => ?_⟩
    have nn_zb2 := S_H232.new1 g13
    have A_H233 : Adv a d 0 H232 (upd H232 zb2 (.lst [.ref zb1])) := Adv.of (same_new g13)
    have e_zb2 : hid a d (upd H232 zb2 (.lst [.ref zb1])) zb2 = some (.lst [.ref zb1]) := by rw [hid_oth nn_zb2.1 nn_zb2.2, upd_same]
    generalize upd H232 zb2 (.lst [.ref zb1]) = H233 at *
    have C_H233 := C_H232.trans A_H233 (Int.le_refl _)
    have S_H233 := A_H233.src _ S_H232
    have e_c := A_H233.same _ _ e_c
    have e_n1 := A_H233.same _ _ e_n1
    have e_b1 := A_H233.same _ _ e_b1
    have e_b2 := A_H233.same _ _ e_b2
    have e_n3 := A_H233.same _ _ e_n3
    have e_nr := A_H233.same _ _ e_nr
    have e_w1 := A_H233.same _ _ e_w1
    have e_za1 := A_H233.same _ _ e_za1
    have e_za2 := A_H233.same _ _ e_za2
    have e_za3 := A_H233.same _ _ e_za3
    have e_za4 := A_H233.same _ _ e_za4
    have e_zb1 := A_H233.same _ _ e_zb1
    have Kc := Kc.same A_H233.same
    refine ⟨nr, zb2, _, _, rfl, rfl, (hid_get e_nr).1, (hid_get e_zb2).1, size_le (by show 4 ≤ 100000; decide), fun zb3 g14 => ?_⟩
    have nn_zb3 := S_H233.new1 g14
    have A_H234 : Adv a d 0 H233 (upd H233 zb3 (.lst ([.ref n1, .ref b2, .ref n3] ++ [.ref zb1]))) := Adv.of (same_new g14)
    have e_zb3 : hid a d (upd H233 zb3 (.lst ([.ref n1, .ref b2, .ref n3] ++ [.ref zb1]))) zb3 = some (.lst ([.ref n1, .ref b2, .ref n3] ++ [.ref zb1])) := by rw [hid_oth nn_zb3.1 nn_zb3.2, upd_same]
    generalize upd H233 zb3 (.lst ([.ref n1, .ref b2, .ref n3] ++ [.ref zb1])) = H234 at *
    have C_H234 := C_H233.trans A_H234 (Int.le_refl _)
    have S_H234 := A_H234.src _ S_H233
    have e_c := A_H234.same _ _ e_c
    have e_n1 := A_H234.same _ _ e_n1
    have e_b1 := A_H234.same _ _ e_b1
    have e_b2 := A_H234.same _ _ e_b2
    have e_n3 := A_H234.same _ _ e_n3
    have e_nr := A_H234.same _ _ e_nr
    have e_w1 := A_H234.same _ _ e_w1
    have e_za1 := A_H234.same _ _ e_za1
    have e_za2 := A_H234.same _ _ e_za2
    have e_za3 := A_H234.same _ _ e_za3
    have e_za4 := A_H234.same _ _ e_za4
    have e_zb1 := A_H234.same _ _ e_zb1
    have e_zb2 := A_H234.same _ _ e_zb2
    have Kc := Kc.same A_H234.same
    refine ⟨size_le (by show 3 ≤ 100000; decide), fun zb4 g15 => ?_⟩
    have nn_zb4 := S_H234.new1 g15
    have A_H235 : Adv a d 0 H234 (upd H234 zb4 (.tup [.int 1, .ref zb3, .non])) := Adv.of (same_new g15)
    have e_zb4 : hid a d (upd H234 zb4 (.tup [.int 1, .ref zb3, .non])) zb4 = some (.tup [.int 1, .ref zb3, .non]) := by rw [hid_oth nn_zb4.1 nn_zb4.2, upd_same]
    generalize upd H234 zb4 (.tup [.int 1, .ref zb3, .non]) = H235 at *
    have C_H235 := C_H234.trans A_H235 (Int.le_refl _)
    have S_H235 := A_H235.src _ S_H234
    have e_c := A_H235.same _ _ e_c
    have e_n1 := A_H235.same _ _ e_n1
    have e_b1 := A_H235.same _ _ e_b1
    have e_b2 := A_H235.same _ _ e_b2
    have e_n3 := A_H235.same _ _ e_n3
    have e_nr := A_H235.same _ _ e_nr
    have e_w1 := A_H235.same _ _ e_w1
    have e_za1 := A_H235.same _ _ e_za1
    have e_za2 := A_H235.same _ _ e_za2
    have e_za3 := A_H235.same _ _ e_za3
    have e_za4 := A_H235.same _ _ e_za4
    have e_zb1 := A_H235.same _ _ e_zb1
    have e_zb2 := A_H235.same _ _ e_zb2
    have e_zb3 := A_H235.same _ _ e_zb3
    have Kc := Kc.same A_H235.same
    refine ⟨size_le (by show 3 ≤ 100000; decide), fun w2 g20 => ?_⟩
    have nn_w2 := S_H235.new1 g20
    have A_H236 : Adv a d 0 H235 (upd H235 w2 (.lst [.ref w1, .ref za4, .ref zb4])) := Adv.of (same_new g20)
    have e_w2 : hid a d (upd H235 w2 (.lst [.ref w1, .ref za4, .ref zb4])) w2 = some (.lst [.ref w1, .ref za4, .ref zb4]) := by rw [hid_oth nn_w2.1 nn_w2.2, upd_same]
    generalize upd H235 w2 (.lst [.ref w1, .ref za4, .ref zb4]) = H236 at *
    have C_H236 := C_H235.trans A_H236 (Int.le_refl _)
    have S_H236 := A_H236.src _ S_H235
    have e_c := A_H236.same _ _ e_c
    have e_n1 := A_H236.same _ _ e_n1
    have e_b1 := A_H236.same _ _ e_b1
    have e_b2 := A_H236.same _ _ e_b2
    have e_n3 := A_H236.same _ _ e_n3
    have e_nr := A_H236.same _ _ e_nr
    have e_w1 := A_H236.same _ _ e_w1
    have e_za1 := A_H236.same _ _ e_za1
    have e_za2 := A_H236.same _ _ e_za2
    have e_za3 := A_H236.same _ _ e_za3
    have e_za4 := A_H236.same _ _ e_za4
    have e_zb1 := A_H236.same _ _ e_zb1
    have e_zb2 := A_H236.same _ _ e_zb2
    have e_zb3 := A_H236.same _ _ e_zb3
    have e_zb4 := A_H236.same _ _ e_zb4
    have Kc := Kc.same A_H236.same
    refine ⟨c, w2, _, _, rfl, rfl, (hid_get e_c).1, (hid_get e_w2).1, size_le (by show us.length + 3 ≤ 100000; omega), fun cz g21 => ?_⟩
    have nn_cz := S_H236.new1 g21
    have A_H237 : Adv a d 0 H236 (upd H236 cz (.lst (us ++ [.ref w1, .ref za4, .ref zb4]))) := Adv.of (same_new g21)
    have e_cz : hid a d (upd H236 cz (.lst (us ++ [.ref w1, .ref za4, .ref zb4]))) cz = some (.lst (us ++ [.ref w1, .ref za4, .ref zb4])) := by rw [hid_oth nn_cz.1 nn_cz.2, upd_same]
    generalize upd H236 cz (.lst (us ++ [.ref w1, .ref za4, .ref zb4])) = H237 at *
    have C_H237 := C_H236.trans A_H237 (Int.le_refl _)
    have S_H237 := A_H237.src _ S_H236
    have e_c := A_H237.same _ _ e_c
    have e_n1 := A_H237.same _ _ e_n1
    have e_b1 := A_H237.same _ _ e_b1
    have e_b2 := A_H237.same _ _ e_b2
    have e_n3 := A_H237.same _ _ e_n3
    have e_nr := A_H237.same _ _ e_nr
    have e_w1 := A_H237.same _ _ e_w1
    have e_za1 := A_H237.same _ _ e_za1
    have e_za2 := A_H237.same _ _ e_za2
    have e_za3 := A_H237.same _ _ e_za3
    have e_za4 := A_H237.same _ _ e_za4
    have e_zb1 := A_H237.same _ _ e_zb1
    have e_zb2 := A_H237.same _ _ e_zb2
    have e_zb3 := A_H237.same _ _ e_zb3
    have e_zb4 := A_H237.same _ _ e_zb4
    have e_w2 := A_H237.same _ _ e_w2
    have Kc := Kc.same A_H237.same
    have sb : (Lay.pol (List.replicate rk.toNat (2 : Int))).seen := ⟨by rw [List.length_replicate]; omega, fun z hz => by rw [List.eq_of_mem_replicate hz]; decide⟩
    have s1' : (Lay.con 1 (1 + rf)).seen := ⟨by decide, by omega⟩
    have s3' : (Lay.con 3 (fq + rz)).seen := ⟨by decide, by omega⟩
    have s0' : (Lay.con 0 10000000000000000000).seen := ⟨by decide, by decide⟩
    have F : AskL (hid a d H237) (us ++ [.ref w1, .ref za4, .ref zb4]) := Kc.app (.cons (Asked.one (Ls := [.con 1 (1 + rf), .pol (List.replicate rk.toNat 2), .con 3 (fq + rz)]) e_w1 (.inr rfl) (nest_of e_nr (.cons ⟨n1, rfl, e_n1⟩ (.cons ⟨b2, rfl, e_b2⟩ (.cons ⟨n3, rfl, e_n3⟩ .nil)))) (by show 3 ≤ 10; decide) (seen_three s1' sb s3'))
      (.cons (Asked.one (Ls := [.con 1 (1 + rf), .pol (List.replicate rk.toNat 2), .con 3 (fq + rz), .con 0 10000000000000000000]) e_za4 (.inr rfl) (nest_of e_za3 (.cons ⟨n1, rfl, e_n1⟩ (.cons ⟨b2, rfl, e_b2⟩ (.cons ⟨n3, rfl, e_n3⟩ (.cons ⟨za1, rfl, e_za1⟩ .nil))))) (by show 4 ≤ 10; decide) (seen_four s1' sb s3' s0'))
      (.cons (Asked.one (Ls := [.con 1 (1 + rf), .pol (List.replicate rk.toNat 2), .con 3 (fq + rz), .con 0 10000000000000000000]) e_zb4 (.inl rfl) (nest_of e_zb3 (.cons ⟨n1, rfl, e_n1⟩ (.cons ⟨b2, rfl, e_b2⟩ (.cons ⟨n3, rfl, e_n3⟩ (.cons ⟨zb1, rfl, e_zb1⟩ .nil))))) (by show 4 ≤ 10; decide) (seen_four s1' sb s3' s0')) .nil)))
    clear e_c Kc e_n1 e_b1 e_b2 e_n3 e_nr e_w1 e_za1 e_za2 e_za3 e_za4 e_zb1 e_zb2 e_zb3 e_zb4 e_w2
    generalize us ++ [V.ref w1, V.ref za4, V.ref zb4] = all at *
    refine ⟨_, rfl, cz, rfl, ⟨_, sql (hid_get e_cz).1⟩, for_list (xs := all) (fun j σ H' => (∃ y2 y3 y4 y5 y6 y7 y8 y9 y10 y11 y12 y13 y14 y15 y16 y17 y18 y19, σ = [some (.ref sa), some (.ref a), y2, y3, y4, y5, y6, y7, y8, y9, y10, y11, y12, y13, y14, y15, y16, y17, y18, y19]) ∧ Same H237 H') ⟨⟨_, _, _, _, _, _, _, _, _, _, _, _, _, _, _, _, _, _, rfl⟩, Same.refl _⟩ (fun j σ H' _ h => sql (h.2 _ _ (hid_get e_cz).1)) (fun j x σ H900 hx h => ?_) (fun σ H' h => ?_)⟩
    · obtain ⟨⟨y2, y3, y4, y5, y6, y7, y8, y9, y10, y11, y12, y13, y14, y15, y16, y17, y18, y19, rfl⟩, sm⟩ := h
      obtain ⟨t, door, x, y, due, dx, dy, rfl, ht, hdoor, hdx, hdy, sh⟩ := (F x (List.mem_of_getElem? hx)).all (K := K)
      have go : Same (hid a d H237) H900 := unhid.trans sm
      have hdoor := hdoor.same go
      have hdx := dp_same go _ _ hdx
      have hdy := dp_same go _ _ hdy
      refine ⟨t, _, rfl, sqt (go _ _ ht), rfl, _, _, rfl, _, _, rfl, _, _, rfl, rfl, ?_⟩
      refine ⟨_, rfl, _, rfl, size_le (by show 2 ≤ 100000; decide), fun o1 f1 => ?_⟩
      have x1 := same_new (o := .lst [x, y]) f1
      have e1 := upd_same (H := H900) (a := o1) (o := .lst [x, y])
      generalize upd H900 o1 (.lst [x, y]) = H901 at *
      refine ⟨o1, .list [dx, dy], rfl, .lst (sql e1) (.cons (dp_same x1 _ _ hdx) (.cons (dp_same x1 _ _ hdy) .nil)), sh.show1, sh.plain, Nat.le_trans sh.deep (by decide), sh.fits (by decide), ?_⟩
      refine ⟨_, rfl, _, rfl, _, rfl, door, x, y, due, rfl, hdoor.same x1, fun H902 v1 x2 re1 => ?_⟩
      refine ⟨_, rfl, _, rfl, _, rfl, door, x, y, due, rfl, hdoor.same (x1.trans x2), fun H903 v2 x3 re2 => ?_⟩
      refine ⟨v1, v2, due, rfl, re1.same x3, re2, fun H904 x4 => ⟨true, rfl, iteF ?_⟩⟩
      have x14 := ((x1.trans x2).trans x3).trans x4
      refine ⟨_, rfl, _, rfl, size_le (by show 2 ≤ 100000; decide), fun o2 f2 => ?_⟩
      have x5 := same_new (o := .lst [x, y]) f2
      have e2 := upd_same (H := H904) (a := o2) (o := .lst [x, y])
      generalize upd H904 o2 (.lst [x, y]) = H905 at *
      have x15 := x14.trans x5
      refine ⟨o2, .list [dx, dy], rfl, .lst (sql e2) (.cons (dp_same x15 _ _ hdx) (.cons (dp_same x15 _ _ hdy) .nil)), sh.show1, sh.plain, Nat.le_trans sh.deep (by decide), sh.fits (by decide), ?_⟩
      refine ⟨_, rfl, rfl, _, rfl, ne_str rfl ?_⟩
      exact ⟨⟨_, _, _, _, _, _, _, _, _, _, _, _, _, _, _, _, _, _, rfl⟩, sm.trans x15⟩
    · obtain ⟨⟨y2, y3, y4, y5, y6, y7, y8, y9, y10, y11, y12, y13, y14, y15, y16, y17, y18, y19, rfl⟩, sm⟩ := h
      exact ⟨⟨_, _, _, _, _, _, _, _, _, _, _, _, _, _, _, _, _, _, rfl⟩, ((A0.trans C_H237 (Int.le_refl _)).trans (Adv.of sm) (Int.le_refl _)).mono (by omega)⟩
  · exact q _

end
end Rn
namespace Rn
open PySem PySem.Spec PyProof.Rows L2
theorem all_mk {l : PySem.W.OpenLaw} {w : World} {K : PySem.W.Frag} {h : Heap} {mg : Str → Option Value} {fa f0 f1 f2 f3 f4 f5 f6 f7 f8 f9 f10 f11 f12 f13 f14 f15 f16 f17 f18 f19 f20 f21 f22 f23 f24 f25 f26 : Addr} (X : K.In h) (G : h.Ns mainGlobals mg) (hfa : mg "law" = some (.ref fa))
    {od0 an0 od1 an1 od2 an2 od3 an3 od4 an4 od5 an5 od6 an6 od7 an7 od8 an8 od9 an9 od10 an10 od11 an11 od12 an12 od13 an13 od14 an14 od15 an15 od16 an16 od17 an17 od18 an18 od19 an19 od20 an20 od21 an21 od22 an22 od23 an23 od24 an24 od25 an25 od26 an26 : Option Addr} {sl0 sl1 sl2 sl3 sl4 sl5 sl6 sl7 sl8 sl9 sl10 sl11 sl12 sl13 sl14 sl15 sl16 sl17 sl18 sl19 sl20 sl21 sl22 sl23 sl24 sl25 sl26 : Array (Option Value)} {oc0 kV0 dc0 pm0 cd0 ct0 oc1 kV1 dc1 pm1 cd1 ct1 oc2 kV2 dc2 pm2 cd2 ct2 oc3 kV3 dc3 pm3 cd3 ct3 oc4 kV4 dc4 pm4 cd4 ct4 oc5 kV5 dc5 pm5 cd5 ct5 oc6 kV6 dc6 pm6 cd6 ct6 oc7 kV7 dc7 pm7 cd7 ct7 oc8 kV8 dc8 pm8 cd8 ct8 oc9 kV9 dc9 pm9 cd9 ct9 oc10 kV10 dc10 pm10 cd10 ct10 oc11 kV11 dc11 pm11 cd11 ct11 oc12 kV12 dc12 pm12 cd12 ct12 oc13 kV13 dc13 pm13 cd13 ct13 oc14 kV14 dc14 pm14 cd14 ct14 oc15 kV15 dc15 pm15 cd15 ct15 oc16 kV16 dc16 pm16 cd16 ct16 oc17 kV17 dc17 pm17 cd17 ct17 oc18 kV18 dc18 pm18 cd18 ct18 oc19 kV19 dc19 pm19 cd19 ct19 oc20 kV20 dc20 pm20 cd20 ct20 oc21 kV21 dc21 pm21 cd21 ct21 oc22 kV22 dc22 pm22 cd22 ct22 oc23 kV23 dc23 pm23 cd23 ct23 oc24 kV24 dc24 pm24 cd24 ct24 oc25 kV25 dc25 pm25 cd25 ct25 oc26 kV26 dc26 pm26 cd26 ct26 : Value}
    {nm_InvalidLayer q_InvalidLayer : Str} {C_InvalidLayer CR_InvalidLayer N_InvalidLayer I_InvalidLayer : Addr} {bs_InvalidLayer sub_InvalidLayer : List Value} {sn_InvalidLayer : List Str} {ab_InvalidLayer : Bool} {col_InvalidLayer : Option Bool} {dd_InvalidLayer : Option Addr} {m0_InvalidLayer m1_InvalidLayer m2_InvalidLayer m3_InvalidLayer m5_InvalidLayer : Option Value}
    {oc_InvalidLayer doc_InvalidLayer pm_InvalidLayer ct_InvalidLayer ccl_InvalidLayer cl_InvalidLayer : Value} {od_InvalidLayer an_InvalidLayer cdd_InvalidLayer cld_InvalidLayer : Option Addr} {cc_InvalidLayer cda_InvalidLayer : Addr} {osl_InvalidLayer ccs_InvalidLayer csl_InvalidLayer : Array (Option Value)} {vs_InvalidLayer : Array Value} {file_InvalidLayer : Str} {tf_InvalidLayer : Tok}
    {nR_InvalidLayer qR_InvalidLayer : Str} {NR_InvalidLayer : Addr} {bR_InvalidLayer subR_InvalidLayer : List Value} {snR_InvalidLayer : List Str} {abR_InvalidLayer : Bool} {colR_InvalidLayer : Option Bool} {ddR_InvalidLayer : Option Addr} {r0_InvalidLayer r1_InvalidLayer r2_InvalidLayer r3_InvalidLayer r5_InvalidLayer : Option Value}
    (aC_InvalidLayer : PySem.W.nsIn K mainGlobals "InvalidLayer" = some (some (.ref C_InvalidLayer)))
    (xL_InvalidLayer : K.lookup C_InvalidLayer = some (PySem.excClassObj nm_InvalidLayer q_InvalidLayer C_InvalidLayer N_InvalidLayer bs_InvalidLayer [.ref CR_InvalidLayer, .type "ValueError", .type "Exception", .type "BaseException", .type "object"] true sn_InvalidLayer sub_InvalidLayer ab_InvalidLayer col_InvalidLayer dd_InvalidLayer m0_InvalidLayer m1_InvalidLayer m2_InvalidLayer m3_InvalidLayer m5_InvalidLayer "ValueError.__new__"))
    (sa_InvalidLayer : PySem.W.findIn K (.ref C_InvalidLayer) "__setattr__" = some (some (.builtin "object.__setattr__")))
    (ga_InvalidLayer : PySem.W.findIn K (.ref C_InvalidLayer) "__getattribute__" = some (some (.builtin "BaseException.__getattribute__")))
    (gg_InvalidLayer : PySem.W.findIn K (.ref C_InvalidLayer) "__getattr__" = some none)
    (nN_InvalidLayer : PySem.W.findIn K (.ref C_InvalidLayer) "value" = some none)
    (iC_InvalidLayer : PySem.W.findIn K (.ref C_InvalidLayer) "__init__" = some (some (.ref I_InvalidLayer)))
    (tC_InvalidLayer : PySem.W.typeIn K (.ref I_InvalidLayer) = some (.type "function"))
    (kC_InvalidLayer : PySem.W.keepIn K (.ref C_InvalidLayer) = true)
    (eC_InvalidLayer : PySem.W.subIn K (.ref C_InvalidLayer) (.type "BaseException") = some true)
    (vC_InvalidLayer : PySem.W.subIn K (.ref C_InvalidLayer) (.type "ValueError") = some true)
    (yC_InvalidLayer : PySem.W.typeIn K (.ref C_InvalidLayer) = some (.type "type"))
    (hC_InvalidLayer : PySem.W.hasDictIn K C_InvalidLayer = true)
    (mC_InvalidLayer : PySem.W.mroIn K C_InvalidLayer (.ref C_InvalidLayer) = some true)
    (xR_InvalidLayer : K.lookup CR_InvalidLayer = some (PySem.excClassObj nR_InvalidLayer qR_InvalidLayer CR_InvalidLayer NR_InvalidLayer bR_InvalidLayer [.type "ValueError", .type "Exception", .type "BaseException", .type "object"] true snR_InvalidLayer subR_InvalidLayer abR_InvalidLayer colR_InvalidLayer ddR_InvalidLayer r0_InvalidLayer r1_InvalidLayer r2_InvalidLayer r3_InvalidLayer r5_InvalidLayer "ValueError.__new__"))
    (fR_InvalidLayer : PySem.W.findIn K (.ref CR_InvalidLayer) "__init__" = some (some (.builtin "ValueError.__init__")))
    (lI_InvalidLayer : K.lookup I_InvalidLayer = some ⟨oc_InvalidLayer, od_InvalidLayer, .func (PySem.W.ksFn "__init__" "InvalidLayer.__init__" (PySem.VeX.iA ⟨11, 17, 11, 21⟩ ⟨11, 23, 11, 28⟩) (PySem.VeX.iB "a layer is invalid" ⟨12, 8, 12, 13⟩ ⟨12, 8, 12, 15⟩ ⟨12, 8, 12, 24⟩ ⟨12, 25, 12, 45⟩ ⟨12, 8, 12, 46⟩ ⟨12, 8, 12, 46⟩ ⟨13, 8, 13, 12⟩ ⟨13, 8, 13, 18⟩ ⟨13, 21, 13, 26⟩ ⟨13, 8, 13, 26⟩) PySem.VeX.iS .none .none doc_InvalidLayer pm_InvalidLayer an_InvalidLayer (.ref cda_InvalidLayer) ct_InvalidLayer cc_InvalidLayer), osl_InvalidLayer⟩)
    (cI_InvalidLayer : PySem.W.codeIn K (.ref cda_InvalidLayer) "InvalidLayer.__init__" = true)
    (cd_InvalidLayer : K.lookup cda_InvalidLayer = some ⟨ccl_InvalidLayer, cdd_InvalidLayer, .fields vs_InvalidLayer, ccs_InvalidLayer⟩)
    (fv_InvalidLayer : vs_InvalidLayer[2]? = some (.str file_InvalidLayer tf_InvalidLayer))
    (fm_InvalidLayer : ((l.prog.main.file : Str) == file_InvalidLayer) = true)
    (ce_InvalidLayer : K.lookup cc_InvalidLayer = some ⟨cl_InvalidLayer, cld_InvalidLayer, .cell (some (.ref C_InvalidLayer)), csl_InvalidLayer⟩)
    (ic_InvalidLayer : PySem.W.isClsIn K C_InvalidLayer = true)
    {nm_InvalidNumber q_InvalidNumber : Str} {C_InvalidNumber CR_InvalidNumber N_InvalidNumber I_InvalidNumber : Addr} {bs_InvalidNumber sub_InvalidNumber : List Value} {sn_InvalidNumber : List Str} {ab_InvalidNumber : Bool} {col_InvalidNumber : Option Bool} {dd_InvalidNumber : Option Addr} {m0_InvalidNumber m1_InvalidNumber m2_InvalidNumber m3_InvalidNumber m5_InvalidNumber : Option Value}
    {oc_InvalidNumber doc_InvalidNumber pm_InvalidNumber ct_InvalidNumber ccl_InvalidNumber cl_InvalidNumber : Value} {od_InvalidNumber an_InvalidNumber cdd_InvalidNumber cld_InvalidNumber : Option Addr} {cc_InvalidNumber cda_InvalidNumber : Addr} {osl_InvalidNumber ccs_InvalidNumber csl_InvalidNumber : Array (Option Value)} {vs_InvalidNumber : Array Value} {file_InvalidNumber : Str} {tf_InvalidNumber : Tok}
    {nR_InvalidNumber qR_InvalidNumber : Str} {NR_InvalidNumber : Addr} {bR_InvalidNumber subR_InvalidNumber : List Value} {snR_InvalidNumber : List Str} {abR_InvalidNumber : Bool} {colR_InvalidNumber : Option Bool} {ddR_InvalidNumber : Option Addr} {r0_InvalidNumber r1_InvalidNumber r2_InvalidNumber r3_InvalidNumber r5_InvalidNumber : Option Value}
    (aC_InvalidNumber : PySem.W.nsIn K mainGlobals "InvalidNumber" = some (some (.ref C_InvalidNumber)))
    (xL_InvalidNumber : K.lookup C_InvalidNumber = some (PySem.excClassObj nm_InvalidNumber q_InvalidNumber C_InvalidNumber N_InvalidNumber bs_InvalidNumber [.ref CR_InvalidNumber, .type "ValueError", .type "Exception", .type "BaseException", .type "object"] true sn_InvalidNumber sub_InvalidNumber ab_InvalidNumber col_InvalidNumber dd_InvalidNumber m0_InvalidNumber m1_InvalidNumber m2_InvalidNumber m3_InvalidNumber m5_InvalidNumber "ValueError.__new__"))
    (sa_InvalidNumber : PySem.W.findIn K (.ref C_InvalidNumber) "__setattr__" = some (some (.builtin "object.__setattr__")))
    (ga_InvalidNumber : PySem.W.findIn K (.ref C_InvalidNumber) "__getattribute__" = some (some (.builtin "BaseException.__getattribute__")))
    (gg_InvalidNumber : PySem.W.findIn K (.ref C_InvalidNumber) "__getattr__" = some none)
    (nN_InvalidNumber : PySem.W.findIn K (.ref C_InvalidNumber) "value" = some none)
    (iC_InvalidNumber : PySem.W.findIn K (.ref C_InvalidNumber) "__init__" = some (some (.ref I_InvalidNumber)))
    (tC_InvalidNumber : PySem.W.typeIn K (.ref I_InvalidNumber) = some (.type "function"))
    (kC_InvalidNumber : PySem.W.keepIn K (.ref C_InvalidNumber) = true)
    (eC_InvalidNumber : PySem.W.subIn K (.ref C_InvalidNumber) (.type "BaseException") = some true)
    (vC_InvalidNumber : PySem.W.subIn K (.ref C_InvalidNumber) (.type "ValueError") = some true)
    (yC_InvalidNumber : PySem.W.typeIn K (.ref C_InvalidNumber) = some (.type "type"))
    (hC_InvalidNumber : PySem.W.hasDictIn K C_InvalidNumber = true)
    (mC_InvalidNumber : PySem.W.mroIn K C_InvalidNumber (.ref C_InvalidNumber) = some true)
    (xR_InvalidNumber : K.lookup CR_InvalidNumber = some (PySem.excClassObj nR_InvalidNumber qR_InvalidNumber CR_InvalidNumber NR_InvalidNumber bR_InvalidNumber [.type "ValueError", .type "Exception", .type "BaseException", .type "object"] true snR_InvalidNumber subR_InvalidNumber abR_InvalidNumber colR_InvalidNumber ddR_InvalidNumber r0_InvalidNumber r1_InvalidNumber r2_InvalidNumber r3_InvalidNumber r5_InvalidNumber "ValueError.__new__"))
    (fR_InvalidNumber : PySem.W.findIn K (.ref CR_InvalidNumber) "__init__" = some (some (.builtin "ValueError.__init__")))
    (lI_InvalidNumber : K.lookup I_InvalidNumber = some ⟨oc_InvalidNumber, od_InvalidNumber, .func (PySem.W.ksFn "__init__" "InvalidNumber.__init__" (PySem.VeX.iA ⟨16, 17, 16, 21⟩ ⟨16, 23, 16, 28⟩) (PySem.VeX.iB "a number is not possible here" ⟨17, 8, 17, 13⟩ ⟨17, 8, 17, 15⟩ ⟨17, 8, 17, 24⟩ ⟨17, 25, 17, 56⟩ ⟨17, 8, 17, 57⟩ ⟨17, 8, 17, 57⟩ ⟨18, 8, 18, 12⟩ ⟨18, 8, 18, 18⟩ ⟨18, 21, 18, 26⟩ ⟨18, 8, 18, 26⟩) PySem.VeX.iS .none .none doc_InvalidNumber pm_InvalidNumber an_InvalidNumber (.ref cda_InvalidNumber) ct_InvalidNumber cc_InvalidNumber), osl_InvalidNumber⟩)
    (cI_InvalidNumber : PySem.W.codeIn K (.ref cda_InvalidNumber) "InvalidNumber.__init__" = true)
    (cd_InvalidNumber : K.lookup cda_InvalidNumber = some ⟨ccl_InvalidNumber, cdd_InvalidNumber, .fields vs_InvalidNumber, ccs_InvalidNumber⟩)
    (fv_InvalidNumber : vs_InvalidNumber[2]? = some (.str file_InvalidNumber tf_InvalidNumber))
    (fm_InvalidNumber : ((l.prog.main.file : Str) == file_InvalidNumber) = true)
    (ce_InvalidNumber : K.lookup cc_InvalidNumber = some ⟨cl_InvalidNumber, cld_InvalidNumber, .cell (some (.ref C_InvalidNumber)), csl_InvalidNumber⟩)
    (ic_InvalidNumber : PySem.W.isClsIn K C_InvalidNumber = true)
    {nm_InvalidWait q_InvalidWait : Str} {C_InvalidWait CR_InvalidWait N_InvalidWait I_InvalidWait : Addr} {bs_InvalidWait sub_InvalidWait : List Value} {sn_InvalidWait : List Str} {ab_InvalidWait : Bool} {col_InvalidWait : Option Bool} {dd_InvalidWait : Option Addr} {m0_InvalidWait m1_InvalidWait m2_InvalidWait m3_InvalidWait m5_InvalidWait : Option Value}
    {oc_InvalidWait doc_InvalidWait pm_InvalidWait ct_InvalidWait ccl_InvalidWait cl_InvalidWait : Value} {od_InvalidWait an_InvalidWait cdd_InvalidWait cld_InvalidWait : Option Addr} {cc_InvalidWait cda_InvalidWait : Addr} {osl_InvalidWait ccs_InvalidWait csl_InvalidWait : Array (Option Value)} {vs_InvalidWait : Array Value} {file_InvalidWait : Str} {tf_InvalidWait : Tok}
    {nR_InvalidWait qR_InvalidWait : Str} {NR_InvalidWait : Addr} {bR_InvalidWait subR_InvalidWait : List Value} {snR_InvalidWait : List Str} {abR_InvalidWait : Bool} {colR_InvalidWait : Option Bool} {ddR_InvalidWait : Option Addr} {r0_InvalidWait r1_InvalidWait r2_InvalidWait r3_InvalidWait r5_InvalidWait : Option Value}
    (aC_InvalidWait : PySem.W.nsIn K mainGlobals "InvalidWait" = some (some (.ref C_InvalidWait)))
    (xL_InvalidWait : K.lookup C_InvalidWait = some (PySem.excClassObj nm_InvalidWait q_InvalidWait C_InvalidWait N_InvalidWait bs_InvalidWait [.ref CR_InvalidWait, .type "ValueError", .type "Exception", .type "BaseException", .type "object"] true sn_InvalidWait sub_InvalidWait ab_InvalidWait col_InvalidWait dd_InvalidWait m0_InvalidWait m1_InvalidWait m2_InvalidWait m3_InvalidWait m5_InvalidWait "ValueError.__new__"))
    (sa_InvalidWait : PySem.W.findIn K (.ref C_InvalidWait) "__setattr__" = some (some (.builtin "object.__setattr__")))
    (ga_InvalidWait : PySem.W.findIn K (.ref C_InvalidWait) "__getattribute__" = some (some (.builtin "BaseException.__getattribute__")))
    (gg_InvalidWait : PySem.W.findIn K (.ref C_InvalidWait) "__getattr__" = some none)
    (nN_InvalidWait : PySem.W.findIn K (.ref C_InvalidWait) "value" = some none)
    (iC_InvalidWait : PySem.W.findIn K (.ref C_InvalidWait) "__init__" = some (some (.ref I_InvalidWait)))
    (tC_InvalidWait : PySem.W.typeIn K (.ref I_InvalidWait) = some (.type "function"))
    (kC_InvalidWait : PySem.W.keepIn K (.ref C_InvalidWait) = true)
    (eC_InvalidWait : PySem.W.subIn K (.ref C_InvalidWait) (.type "BaseException") = some true)
    (vC_InvalidWait : PySem.W.subIn K (.ref C_InvalidWait) (.type "ValueError") = some true)
    (yC_InvalidWait : PySem.W.typeIn K (.ref C_InvalidWait) = some (.type "type"))
    (hC_InvalidWait : PySem.W.hasDictIn K C_InvalidWait = true)
    (mC_InvalidWait : PySem.W.mroIn K C_InvalidWait (.ref C_InvalidWait) = some true)
    (xR_InvalidWait : K.lookup CR_InvalidWait = some (PySem.excClassObj nR_InvalidWait qR_InvalidWait CR_InvalidWait NR_InvalidWait bR_InvalidWait [.type "ValueError", .type "Exception", .type "BaseException", .type "object"] true snR_InvalidWait subR_InvalidWait abR_InvalidWait colR_InvalidWait ddR_InvalidWait r0_InvalidWait r1_InvalidWait r2_InvalidWait r3_InvalidWait r5_InvalidWait "ValueError.__new__"))
    (fR_InvalidWait : PySem.W.findIn K (.ref CR_InvalidWait) "__init__" = some (some (.builtin "ValueError.__init__")))
    (lI_InvalidWait : K.lookup I_InvalidWait = some ⟨oc_InvalidWait, od_InvalidWait, .func (PySem.W.ksFn "__init__" "InvalidWait.__init__" (PySem.VeX.iA ⟨6, 17, 6, 21⟩ ⟨6, 23, 6, 28⟩) (PySem.VeX.iB "a wait is negative" ⟨7, 8, 7, 13⟩ ⟨7, 8, 7, 15⟩ ⟨7, 8, 7, 24⟩ ⟨7, 25, 7, 45⟩ ⟨7, 8, 7, 46⟩ ⟨7, 8, 7, 46⟩ ⟨8, 8, 8, 12⟩ ⟨8, 8, 8, 18⟩ ⟨8, 21, 8, 26⟩ ⟨8, 8, 8, 26⟩) PySem.VeX.iS .none .none doc_InvalidWait pm_InvalidWait an_InvalidWait (.ref cda_InvalidWait) ct_InvalidWait cc_InvalidWait), osl_InvalidWait⟩)
    (cI_InvalidWait : PySem.W.codeIn K (.ref cda_InvalidWait) "InvalidWait.__init__" = true)
    (cd_InvalidWait : K.lookup cda_InvalidWait = some ⟨ccl_InvalidWait, cdd_InvalidWait, .fields vs_InvalidWait, ccs_InvalidWait⟩)
    (fv_InvalidWait : vs_InvalidWait[2]? = some (.str file_InvalidWait tf_InvalidWait))
    (fm_InvalidWait : ((l.prog.main.file : Str) == file_InvalidWait) = true)
    (ce_InvalidWait : K.lookup cc_InvalidWait = some ⟨cl_InvalidWait, cld_InvalidWait, .cell (some (.ref C_InvalidWait)), csl_InvalidWait⟩)
    (ic_InvalidWait : PySem.W.isClsIn K C_InvalidWait = true)
    {nm_NoMoreAttempts q_NoMoreAttempts : Str} {C_NoMoreAttempts CR_NoMoreAttempts N_NoMoreAttempts I_NoMoreAttempts : Addr} {bs_NoMoreAttempts sub_NoMoreAttempts : List Value} {sn_NoMoreAttempts : List Str} {ab_NoMoreAttempts : Bool} {col_NoMoreAttempts : Option Bool} {dd_NoMoreAttempts : Option Addr} {m0_NoMoreAttempts m1_NoMoreAttempts m2_NoMoreAttempts m3_NoMoreAttempts m5_NoMoreAttempts : Option Value}
    {oc_NoMoreAttempts doc_NoMoreAttempts pm_NoMoreAttempts ct_NoMoreAttempts ccl_NoMoreAttempts cl_NoMoreAttempts : Value} {od_NoMoreAttempts an_NoMoreAttempts cdd_NoMoreAttempts cld_NoMoreAttempts : Option Addr} {cc_NoMoreAttempts cda_NoMoreAttempts : Addr} {osl_NoMoreAttempts ccs_NoMoreAttempts csl_NoMoreAttempts : Array (Option Value)} {vs_NoMoreAttempts : Array Value} {file_NoMoreAttempts : Str} {tf_NoMoreAttempts : Tok}
    {nR_NoMoreAttempts qR_NoMoreAttempts : Str} {NR_NoMoreAttempts : Addr} {bR_NoMoreAttempts subR_NoMoreAttempts : List Value} {snR_NoMoreAttempts : List Str} {abR_NoMoreAttempts : Bool} {colR_NoMoreAttempts : Option Bool} {ddR_NoMoreAttempts : Option Addr} {r0_NoMoreAttempts r1_NoMoreAttempts r2_NoMoreAttempts r3_NoMoreAttempts r5_NoMoreAttempts : Option Value}
    (aC_NoMoreAttempts : PySem.W.nsIn K mainGlobals "NoMoreAttempts" = some (some (.ref C_NoMoreAttempts)))
    (xL_NoMoreAttempts : K.lookup C_NoMoreAttempts = some (PySem.excClassObj nm_NoMoreAttempts q_NoMoreAttempts C_NoMoreAttempts N_NoMoreAttempts bs_NoMoreAttempts [.ref CR_NoMoreAttempts, .type "ValueError", .type "Exception", .type "BaseException", .type "object"] true sn_NoMoreAttempts sub_NoMoreAttempts ab_NoMoreAttempts col_NoMoreAttempts dd_NoMoreAttempts m0_NoMoreAttempts m1_NoMoreAttempts m2_NoMoreAttempts m3_NoMoreAttempts m5_NoMoreAttempts "ValueError.__new__"))
    (sa_NoMoreAttempts : PySem.W.findIn K (.ref C_NoMoreAttempts) "__setattr__" = some (some (.builtin "object.__setattr__")))
    (ga_NoMoreAttempts : PySem.W.findIn K (.ref C_NoMoreAttempts) "__getattribute__" = some (some (.builtin "BaseException.__getattribute__")))
    (gg_NoMoreAttempts : PySem.W.findIn K (.ref C_NoMoreAttempts) "__getattr__" = some none)
    (nN_NoMoreAttempts : PySem.W.findIn K (.ref C_NoMoreAttempts) "value" = some none)
    (iC_NoMoreAttempts : PySem.W.findIn K (.ref C_NoMoreAttempts) "__init__" = some (some (.ref I_NoMoreAttempts)))
    (tC_NoMoreAttempts : PySem.W.typeIn K (.ref I_NoMoreAttempts) = some (.type "function"))
    (kC_NoMoreAttempts : PySem.W.keepIn K (.ref C_NoMoreAttempts) = true)
    (eC_NoMoreAttempts : PySem.W.subIn K (.ref C_NoMoreAttempts) (.type "BaseException") = some true)
    (vC_NoMoreAttempts : PySem.W.subIn K (.ref C_NoMoreAttempts) (.type "ValueError") = some true)
    (yC_NoMoreAttempts : PySem.W.typeIn K (.ref C_NoMoreAttempts) = some (.type "type"))
    (hC_NoMoreAttempts : PySem.W.hasDictIn K C_NoMoreAttempts = true)
    (mC_NoMoreAttempts : PySem.W.mroIn K C_NoMoreAttempts (.ref C_NoMoreAttempts) = some true)
    (xR_NoMoreAttempts : K.lookup CR_NoMoreAttempts = some (PySem.excClassObj nR_NoMoreAttempts qR_NoMoreAttempts CR_NoMoreAttempts NR_NoMoreAttempts bR_NoMoreAttempts [.type "ValueError", .type "Exception", .type "BaseException", .type "object"] true snR_NoMoreAttempts subR_NoMoreAttempts abR_NoMoreAttempts colR_NoMoreAttempts ddR_NoMoreAttempts r0_NoMoreAttempts r1_NoMoreAttempts r2_NoMoreAttempts r3_NoMoreAttempts r5_NoMoreAttempts "ValueError.__new__"))
    (fR_NoMoreAttempts : PySem.W.findIn K (.ref CR_NoMoreAttempts) "__init__" = some (some (.builtin "ValueError.__init__")))
    (lI_NoMoreAttempts : K.lookup I_NoMoreAttempts = some ⟨oc_NoMoreAttempts, od_NoMoreAttempts, .func (PySem.W.ksFn "__init__" "NoMoreAttempts.__init__" (PySem.VeX.iA ⟨26, 17, 26, 21⟩ ⟨26, 23, 26, 28⟩) (PySem.VeX.iB "too few attempts are left" ⟨27, 8, 27, 13⟩ ⟨27, 8, 27, 15⟩ ⟨27, 8, 27, 24⟩ ⟨27, 25, 27, 52⟩ ⟨27, 8, 27, 53⟩ ⟨27, 8, 27, 53⟩ ⟨28, 8, 28, 12⟩ ⟨28, 8, 28, 18⟩ ⟨28, 21, 28, 26⟩ ⟨28, 8, 28, 26⟩) PySem.VeX.iS .none .none doc_NoMoreAttempts pm_NoMoreAttempts an_NoMoreAttempts (.ref cda_NoMoreAttempts) ct_NoMoreAttempts cc_NoMoreAttempts), osl_NoMoreAttempts⟩)
    (cI_NoMoreAttempts : PySem.W.codeIn K (.ref cda_NoMoreAttempts) "NoMoreAttempts.__init__" = true)
    (cd_NoMoreAttempts : K.lookup cda_NoMoreAttempts = some ⟨ccl_NoMoreAttempts, cdd_NoMoreAttempts, .fields vs_NoMoreAttempts, ccs_NoMoreAttempts⟩)
    (fv_NoMoreAttempts : vs_NoMoreAttempts[2]? = some (.str file_NoMoreAttempts tf_NoMoreAttempts))
    (fm_NoMoreAttempts : ((l.prog.main.file : Str) == file_NoMoreAttempts) = true)
    (ce_NoMoreAttempts : K.lookup cc_NoMoreAttempts = some ⟨cl_NoMoreAttempts, cld_NoMoreAttempts, .cell (some (.ref C_NoMoreAttempts)), csl_NoMoreAttempts⟩)
    (ic_NoMoreAttempts : PySem.W.isClsIn K C_NoMoreAttempts = true)
    {nm_TooManyAttempts q_TooManyAttempts : Str} {C_TooManyAttempts CR_TooManyAttempts N_TooManyAttempts I_TooManyAttempts : Addr} {bs_TooManyAttempts sub_TooManyAttempts : List Value} {sn_TooManyAttempts : List Str} {ab_TooManyAttempts : Bool} {col_TooManyAttempts : Option Bool} {dd_TooManyAttempts : Option Addr} {m0_TooManyAttempts m1_TooManyAttempts m2_TooManyAttempts m3_TooManyAttempts m5_TooManyAttempts : Option Value}
    {oc_TooManyAttempts doc_TooManyAttempts pm_TooManyAttempts ct_TooManyAttempts ccl_TooManyAttempts cl_TooManyAttempts : Value} {od_TooManyAttempts an_TooManyAttempts cdd_TooManyAttempts cld_TooManyAttempts : Option Addr} {cc_TooManyAttempts cda_TooManyAttempts : Addr} {osl_TooManyAttempts ccs_TooManyAttempts csl_TooManyAttempts : Array (Option Value)} {vs_TooManyAttempts : Array Value} {file_TooManyAttempts : Str} {tf_TooManyAttempts : Tok}
    {nR_TooManyAttempts qR_TooManyAttempts : Str} {NR_TooManyAttempts : Addr} {bR_TooManyAttempts subR_TooManyAttempts : List Value} {snR_TooManyAttempts : List Str} {abR_TooManyAttempts : Bool} {colR_TooManyAttempts : Option Bool} {ddR_TooManyAttempts : Option Addr} {r0_TooManyAttempts r1_TooManyAttempts r2_TooManyAttempts r3_TooManyAttempts r5_TooManyAttempts : Option Value}
    (aC_TooManyAttempts : PySem.W.nsIn K mainGlobals "TooManyAttempts" = some (some (.ref C_TooManyAttempts)))
    (xL_TooManyAttempts : K.lookup C_TooManyAttempts = some (PySem.excClassObj nm_TooManyAttempts q_TooManyAttempts C_TooManyAttempts N_TooManyAttempts bs_TooManyAttempts [.ref CR_TooManyAttempts, .type "ValueError", .type "Exception", .type "BaseException", .type "object"] true sn_TooManyAttempts sub_TooManyAttempts ab_TooManyAttempts col_TooManyAttempts dd_TooManyAttempts m0_TooManyAttempts m1_TooManyAttempts m2_TooManyAttempts m3_TooManyAttempts m5_TooManyAttempts "ValueError.__new__"))
    (sa_TooManyAttempts : PySem.W.findIn K (.ref C_TooManyAttempts) "__setattr__" = some (some (.builtin "object.__setattr__")))
    (ga_TooManyAttempts : PySem.W.findIn K (.ref C_TooManyAttempts) "__getattribute__" = some (some (.builtin "BaseException.__getattribute__")))
    (gg_TooManyAttempts : PySem.W.findIn K (.ref C_TooManyAttempts) "__getattr__" = some none)
    (nN_TooManyAttempts : PySem.W.findIn K (.ref C_TooManyAttempts) "value" = some none)
    (iC_TooManyAttempts : PySem.W.findIn K (.ref C_TooManyAttempts) "__init__" = some (some (.ref I_TooManyAttempts)))
    (tC_TooManyAttempts : PySem.W.typeIn K (.ref I_TooManyAttempts) = some (.type "function"))
    (kC_TooManyAttempts : PySem.W.keepIn K (.ref C_TooManyAttempts) = true)
    (eC_TooManyAttempts : PySem.W.subIn K (.ref C_TooManyAttempts) (.type "BaseException") = some true)
    (vC_TooManyAttempts : PySem.W.subIn K (.ref C_TooManyAttempts) (.type "ValueError") = some true)
    (yC_TooManyAttempts : PySem.W.typeIn K (.ref C_TooManyAttempts) = some (.type "type"))
    (hC_TooManyAttempts : PySem.W.hasDictIn K C_TooManyAttempts = true)
    (mC_TooManyAttempts : PySem.W.mroIn K C_TooManyAttempts (.ref C_TooManyAttempts) = some true)
    (xR_TooManyAttempts : K.lookup CR_TooManyAttempts = some (PySem.excClassObj nR_TooManyAttempts qR_TooManyAttempts CR_TooManyAttempts NR_TooManyAttempts bR_TooManyAttempts [.type "ValueError", .type "Exception", .type "BaseException", .type "object"] true snR_TooManyAttempts subR_TooManyAttempts abR_TooManyAttempts colR_TooManyAttempts ddR_TooManyAttempts r0_TooManyAttempts r1_TooManyAttempts r2_TooManyAttempts r3_TooManyAttempts r5_TooManyAttempts "ValueError.__new__"))
    (fR_TooManyAttempts : PySem.W.findIn K (.ref CR_TooManyAttempts) "__init__" = some (some (.builtin "ValueError.__init__")))
    (lI_TooManyAttempts : K.lookup I_TooManyAttempts = some ⟨oc_TooManyAttempts, od_TooManyAttempts, .func (PySem.W.ksFn "__init__" "TooManyAttempts.__init__" (PySem.VeX.iA ⟨21, 17, 21, 21⟩ ⟨21, 23, 21, 28⟩) (PySem.VeX.iB "a policy has too many attempts" ⟨22, 8, 22, 13⟩ ⟨22, 8, 22, 15⟩ ⟨22, 8, 22, 24⟩ ⟨22, 25, 22, 57⟩ ⟨22, 8, 22, 58⟩ ⟨22, 8, 22, 58⟩ ⟨23, 8, 23, 12⟩ ⟨23, 8, 23, 18⟩ ⟨23, 21, 23, 26⟩ ⟨23, 8, 23, 26⟩) PySem.VeX.iS .none .none doc_TooManyAttempts pm_TooManyAttempts an_TooManyAttempts (.ref cda_TooManyAttempts) ct_TooManyAttempts cc_TooManyAttempts), osl_TooManyAttempts⟩)
    (cI_TooManyAttempts : PySem.W.codeIn K (.ref cda_TooManyAttempts) "TooManyAttempts.__init__" = true)
    (cd_TooManyAttempts : K.lookup cda_TooManyAttempts = some ⟨ccl_TooManyAttempts, cdd_TooManyAttempts, .fields vs_TooManyAttempts, ccs_TooManyAttempts⟩)
    (fv_TooManyAttempts : vs_TooManyAttempts[2]? = some (.str file_TooManyAttempts tf_TooManyAttempts))
    (fm_TooManyAttempts : ((l.prog.main.file : Str) == file_TooManyAttempts) = true)
    (ce_TooManyAttempts : K.lookup cc_TooManyAttempts = some ⟨cl_TooManyAttempts, cld_TooManyAttempts, .cell (some (.ref C_TooManyAttempts)), csl_TooManyAttempts⟩)
    (ic_TooManyAttempts : PySem.W.isClsIn K C_TooManyAttempts = true)
    {nm_Unreadable q_Unreadable : Str} {C_Unreadable CR_Unreadable N_Unreadable I_Unreadable : Addr} {bs_Unreadable sub_Unreadable : List Value} {sn_Unreadable : List Str} {ab_Unreadable : Bool} {col_Unreadable : Option Bool} {dd_Unreadable : Option Addr} {m0_Unreadable m1_Unreadable m2_Unreadable m3_Unreadable m5_Unreadable : Option Value}
    {oc_Unreadable doc_Unreadable pm_Unreadable ct_Unreadable ccl_Unreadable cl_Unreadable : Value} {od_Unreadable an_Unreadable cdd_Unreadable cld_Unreadable : Option Addr} {cc_Unreadable cda_Unreadable : Addr} {osl_Unreadable ccs_Unreadable csl_Unreadable : Array (Option Value)} {vs_Unreadable : Array Value} {file_Unreadable : Str} {tf_Unreadable : Tok}
    {nR_Unreadable qR_Unreadable : Str} {NR_Unreadable : Addr} {bR_Unreadable subR_Unreadable : List Value} {snR_Unreadable : List Str} {abR_Unreadable : Bool} {colR_Unreadable : Option Bool} {ddR_Unreadable : Option Addr} {r0_Unreadable r1_Unreadable r2_Unreadable r3_Unreadable r5_Unreadable : Option Value}
    (aC_Unreadable : PySem.W.nsIn K mainGlobals "Unreadable" = some (some (.ref C_Unreadable)))
    (xL_Unreadable : K.lookup C_Unreadable = some (PySem.excClassObj nm_Unreadable q_Unreadable C_Unreadable N_Unreadable bs_Unreadable [.ref CR_Unreadable, .type "ValueError", .type "Exception", .type "BaseException", .type "object"] true sn_Unreadable sub_Unreadable ab_Unreadable col_Unreadable dd_Unreadable m0_Unreadable m1_Unreadable m2_Unreadable m3_Unreadable m5_Unreadable "ValueError.__new__"))
    (sa_Unreadable : PySem.W.findIn K (.ref C_Unreadable) "__setattr__" = some (some (.builtin "object.__setattr__")))
    (ga_Unreadable : PySem.W.findIn K (.ref C_Unreadable) "__getattribute__" = some (some (.builtin "BaseException.__getattribute__")))
    (gg_Unreadable : PySem.W.findIn K (.ref C_Unreadable) "__getattr__" = some none)
    (nN_Unreadable : PySem.W.findIn K (.ref C_Unreadable) "value" = some none)
    (iC_Unreadable : PySem.W.findIn K (.ref C_Unreadable) "__init__" = some (some (.ref I_Unreadable)))
    (tC_Unreadable : PySem.W.typeIn K (.ref I_Unreadable) = some (.type "function"))
    (kC_Unreadable : PySem.W.keepIn K (.ref C_Unreadable) = true)
    (eC_Unreadable : PySem.W.subIn K (.ref C_Unreadable) (.type "BaseException") = some true)
    (vC_Unreadable : PySem.W.subIn K (.ref C_Unreadable) (.type "ValueError") = some true)
    (yC_Unreadable : PySem.W.typeIn K (.ref C_Unreadable) = some (.type "type"))
    (hC_Unreadable : PySem.W.hasDictIn K C_Unreadable = true)
    (mC_Unreadable : PySem.W.mroIn K C_Unreadable (.ref C_Unreadable) = some true)
    (xR_Unreadable : K.lookup CR_Unreadable = some (PySem.excClassObj nR_Unreadable qR_Unreadable CR_Unreadable NR_Unreadable bR_Unreadable [.type "ValueError", .type "Exception", .type "BaseException", .type "object"] true snR_Unreadable subR_Unreadable abR_Unreadable colR_Unreadable ddR_Unreadable r0_Unreadable r1_Unreadable r2_Unreadable r3_Unreadable r5_Unreadable "ValueError.__new__"))
    (fR_Unreadable : PySem.W.findIn K (.ref CR_Unreadable) "__init__" = some (some (.builtin "ValueError.__init__")))
    (lI_Unreadable : K.lookup I_Unreadable = some ⟨oc_Unreadable, od_Unreadable, .func (PySem.W.ksFn "__init__" "Unreadable.__init__" (PySem.VeX.iA ⟨31, 17, 31, 21⟩ ⟨31, 23, 31, 28⟩) (PySem.VeX.iB "no valid nesting has this text" ⟨32, 8, 32, 13⟩ ⟨32, 8, 32, 15⟩ ⟨32, 8, 32, 24⟩ ⟨32, 25, 32, 57⟩ ⟨32, 8, 32, 58⟩ ⟨32, 8, 32, 58⟩ ⟨33, 8, 33, 12⟩ ⟨33, 8, 33, 18⟩ ⟨33, 21, 33, 26⟩ ⟨33, 8, 33, 26⟩) PySem.VeX.iS .none .none doc_Unreadable pm_Unreadable an_Unreadable (.ref cda_Unreadable) ct_Unreadable cc_Unreadable), osl_Unreadable⟩)
    (cI_Unreadable : PySem.W.codeIn K (.ref cda_Unreadable) "Unreadable.__init__" = true)
    (cd_Unreadable : K.lookup cda_Unreadable = some ⟨ccl_Unreadable, cdd_Unreadable, .fields vs_Unreadable, ccs_Unreadable⟩)
    (fv_Unreadable : vs_Unreadable[2]? = some (.str file_Unreadable tf_Unreadable))
    (fm_Unreadable : ((l.prog.main.file : Str) == file_Unreadable) = true)
    (ce_Unreadable : K.lookup cc_Unreadable = some ⟨cl_Unreadable, cld_Unreadable, .cell (some (.ref C_Unreadable)), csl_Unreadable⟩)
    (ic_Unreadable : PySem.W.isClsIn K C_Unreadable = true)
    {C_RetryError : Addr} (aC_RetryError : PySem.W.nsIn K mainGlobals "RetryError" = some (some (.ref C_RetryError))) (ic_RetryError : PySem.W.isClsIn K C_RetryError = true) (eC_RetryError : PySem.W.subIn K (.ref C_RetryError) (.type "BaseException") = some true) (yC_RetryError : PySem.W.typeIn K (.ref C_RetryError) = some (.type "type"))
    (xa_InvalidLayer : PySem.W.findIn K (.ref C_InvalidLayer) "__class__" = some (some (.builtin "object.__class__"))) (xm_InvalidLayer : PySem.W.mroIn K C_InvalidLayer (.type "object") = some true)
    (xa_InvalidNumber : PySem.W.findIn K (.ref C_InvalidNumber) "__class__" = some (some (.builtin "object.__class__"))) (xm_InvalidNumber : PySem.W.mroIn K C_InvalidNumber (.type "object") = some true)
    (xa_InvalidWait : PySem.W.findIn K (.ref C_InvalidWait) "__class__" = some (some (.builtin "object.__class__"))) (xm_InvalidWait : PySem.W.mroIn K C_InvalidWait (.type "object") = some true)
    (xa_NoMoreAttempts : PySem.W.findIn K (.ref C_NoMoreAttempts) "__class__" = some (some (.builtin "object.__class__"))) (xm_NoMoreAttempts : PySem.W.mroIn K C_NoMoreAttempts (.type "object") = some true)
    (xa_TooManyAttempts : PySem.W.findIn K (.ref C_TooManyAttempts) "__class__" = some (some (.builtin "object.__class__"))) (xm_TooManyAttempts : PySem.W.mroIn K C_TooManyAttempts (.type "object") = some true)
    (xa_Unreadable : PySem.W.findIn K (.ref C_Unreadable) "__class__" = some (some (.builtin "object.__class__"))) (xm_Unreadable : PySem.W.mroIn K C_Unreadable (.type "object") = some true)
    (xn : PySem.W.specialIn K (.builtin "object.__class__") "__get__" = some (some (.builtin "getset_descriptor.__get__"))) (xt : PySem.W.takesIn K (.builtin "object.__class__") = some true)
    (aS : PySem.W.nsIn K mainGlobals "super" = some none) (op : PySem.W.nsIn K PySem.cStatics "thirdparty.any" = some none) (top : (l.prog.main.scope.names.lookup ("super" : Str)).isSome = false)
    (te_InvalidLayer_RetryError : PySem.W.subIn K (.ref C_InvalidLayer) (.ref C_RetryError) = some true)
    (te_InvalidNumber_RetryError : PySem.W.subIn K (.ref C_InvalidNumber) (.ref C_RetryError) = some true)
    (te_InvalidWait_RetryError : PySem.W.subIn K (.ref C_InvalidWait) (.ref C_RetryError) = some true)
    (te_NoMoreAttempts_RetryError : PySem.W.subIn K (.ref C_NoMoreAttempts) (.ref C_RetryError) = some true)
    (te_TooManyAttempts_RetryError : PySem.W.subIn K (.ref C_TooManyAttempts) (.ref C_RetryError) = some true)
    (te_Unreadable_RetryError : PySem.W.subIn K (.ref C_Unreadable) (.ref C_RetryError) = some true)
    (is_InvalidLayer_InvalidNumber : PySem.W.kitOne K (.ref C_InvalidLayer) (.ref C_InvalidNumber) = some false)
    (is_InvalidLayer_InvalidWait : PySem.W.kitOne K (.ref C_InvalidLayer) (.ref C_InvalidWait) = some false)
    (is_InvalidLayer_NoMoreAttempts : PySem.W.kitOne K (.ref C_InvalidLayer) (.ref C_NoMoreAttempts) = some false)
    (is_InvalidLayer_RetryError : PySem.W.kitOne K (.ref C_InvalidLayer) (.ref C_RetryError) = some true)
    (is_InvalidLayer_TooManyAttempts : PySem.W.kitOne K (.ref C_InvalidLayer) (.ref C_TooManyAttempts) = some false)
    (is_InvalidLayer_Unreadable : PySem.W.kitOne K (.ref C_InvalidLayer) (.ref C_Unreadable) = some false)
    (is_InvalidNumber_InvalidLayer : PySem.W.kitOne K (.ref C_InvalidNumber) (.ref C_InvalidLayer) = some false)
    (is_InvalidNumber_InvalidWait : PySem.W.kitOne K (.ref C_InvalidNumber) (.ref C_InvalidWait) = some false)
    (is_InvalidNumber_NoMoreAttempts : PySem.W.kitOne K (.ref C_InvalidNumber) (.ref C_NoMoreAttempts) = some false)
    (is_InvalidNumber_RetryError : PySem.W.kitOne K (.ref C_InvalidNumber) (.ref C_RetryError) = some true)
    (is_InvalidNumber_TooManyAttempts : PySem.W.kitOne K (.ref C_InvalidNumber) (.ref C_TooManyAttempts) = some false)
    (is_InvalidNumber_Unreadable : PySem.W.kitOne K (.ref C_InvalidNumber) (.ref C_Unreadable) = some false)
    (is_InvalidWait_InvalidLayer : PySem.W.kitOne K (.ref C_InvalidWait) (.ref C_InvalidLayer) = some false)
    (is_InvalidWait_InvalidNumber : PySem.W.kitOne K (.ref C_InvalidWait) (.ref C_InvalidNumber) = some false)
    (is_InvalidWait_NoMoreAttempts : PySem.W.kitOne K (.ref C_InvalidWait) (.ref C_NoMoreAttempts) = some false)
    (is_InvalidWait_RetryError : PySem.W.kitOne K (.ref C_InvalidWait) (.ref C_RetryError) = some true)
    (is_InvalidWait_TooManyAttempts : PySem.W.kitOne K (.ref C_InvalidWait) (.ref C_TooManyAttempts) = some false)
    (is_InvalidWait_Unreadable : PySem.W.kitOne K (.ref C_InvalidWait) (.ref C_Unreadable) = some false)
    (is_NoMoreAttempts_InvalidLayer : PySem.W.kitOne K (.ref C_NoMoreAttempts) (.ref C_InvalidLayer) = some false)
    (is_NoMoreAttempts_InvalidNumber : PySem.W.kitOne K (.ref C_NoMoreAttempts) (.ref C_InvalidNumber) = some false)
    (is_NoMoreAttempts_InvalidWait : PySem.W.kitOne K (.ref C_NoMoreAttempts) (.ref C_InvalidWait) = some false)
    (is_NoMoreAttempts_RetryError : PySem.W.kitOne K (.ref C_NoMoreAttempts) (.ref C_RetryError) = some true)
    (is_NoMoreAttempts_TooManyAttempts : PySem.W.kitOne K (.ref C_NoMoreAttempts) (.ref C_TooManyAttempts) = some false)
    (is_NoMoreAttempts_Unreadable : PySem.W.kitOne K (.ref C_NoMoreAttempts) (.ref C_Unreadable) = some false)
    (is_TooManyAttempts_InvalidLayer : PySem.W.kitOne K (.ref C_TooManyAttempts) (.ref C_InvalidLayer) = some false)
    (is_TooManyAttempts_InvalidNumber : PySem.W.kitOne K (.ref C_TooManyAttempts) (.ref C_InvalidNumber) = some false)
    (is_TooManyAttempts_InvalidWait : PySem.W.kitOne K (.ref C_TooManyAttempts) (.ref C_InvalidWait) = some false)
    (is_TooManyAttempts_NoMoreAttempts : PySem.W.kitOne K (.ref C_TooManyAttempts) (.ref C_NoMoreAttempts) = some false)
    (is_TooManyAttempts_RetryError : PySem.W.kitOne K (.ref C_TooManyAttempts) (.ref C_RetryError) = some true)
    (is_TooManyAttempts_Unreadable : PySem.W.kitOne K (.ref C_TooManyAttempts) (.ref C_Unreadable) = some false)
    (is_Unreadable_InvalidLayer : PySem.W.kitOne K (.ref C_Unreadable) (.ref C_InvalidLayer) = some false)
    (is_Unreadable_InvalidNumber : PySem.W.kitOne K (.ref C_Unreadable) (.ref C_InvalidNumber) = some false)
    (is_Unreadable_InvalidWait : PySem.W.kitOne K (.ref C_Unreadable) (.ref C_InvalidWait) = some false)
    (is_Unreadable_NoMoreAttempts : PySem.W.kitOne K (.ref C_Unreadable) (.ref C_NoMoreAttempts) = some false)
    (is_Unreadable_RetryError : PySem.W.kitOne K (.ref C_Unreadable) (.ref C_RetryError) = some true)
    (is_Unreadable_TooManyAttempts : PySem.W.kitOne K (.ref C_Unreadable) (.ref C_TooManyAttempts) = some false)
    (a0 : PySem.W.nsIn K mainGlobals "first_negative" = some (some (.ref f0))) (l0 : K.lookup f0 = some ⟨oc0, od0, .func (PySem.W.fnOf "first_negative" "first_negative" (defArgs s_first_negative) (defBody s_first_negative) (defScope s_first_negative) .none kV0 dc0 pm0 an0 cd0 ct0), sl0⟩) (c0 : PySem.W.codeIn K cd0 "first_negative" = true) (k0 : PySem.W.keepIn K (.ref f0) = true)
    (a1 : PySem.W.nsIn K mainGlobals "check_waits" = some (some (.ref f1))) (l1 : K.lookup f1 = some ⟨oc1, od1, .func (PySem.W.fnOf "check_waits" "check_waits" (defArgs s_check_waits) (defBody s_check_waits) (defScope s_check_waits) .none kV1 dc1 pm1 an1 cd1 ct1), sl1⟩) (c1 : PySem.W.codeIn K cd1 "check_waits" = true) (k1 : PySem.W.keepIn K (.ref f1) = true)
    (a2 : PySem.W.nsIn K mainGlobals "is_valid_layer" = some (some (.ref f2))) (l2 : K.lookup f2 = some ⟨oc2, od2, .func (PySem.W.fnOf "is_valid_layer" "is_valid_layer" (defArgs s_is_valid_layer) (defBody s_is_valid_layer) (defScope s_is_valid_layer) .none kV2 dc2 pm2 an2 cd2 ct2), sl2⟩) (c2 : PySem.W.codeIn K cd2 "is_valid_layer" = true) (k2 : PySem.W.keepIn K (.ref f2) = true)
    (a3 : PySem.W.nsIn K mainGlobals "check_nesting" = some (some (.ref f3))) (l3 : K.lookup f3 = some ⟨oc3, od3, .func (PySem.W.fnOf "check_nesting" "check_nesting" (defArgs s_check_nesting) (defBody s_check_nesting) (defScope s_check_nesting) .none kV3 dc3 pm3 an3 cd3 ct3), sl3⟩) (c3 : PySem.W.codeIn K cd3 "check_nesting" = true) (k3 : PySem.W.keepIn K (.ref f3) = true)
    (a4 : PySem.W.nsIn K mainGlobals "check_size" = some (some (.ref f4))) (l4 : K.lookup f4 = some ⟨oc4, od4, .func (PySem.W.fnOf "check_size" "check_size" (defArgs s_check_size) (defBody s_check_size) (defScope s_check_size) .none kV4 dc4 pm4 an4 cd4 ct4), sl4⟩) (c4 : PySem.W.codeIn K cd4 "check_size" = true) (k4 : PySem.W.keepIn K (.ref f4) = true)
    (a5 : PySem.W.nsIn K mainGlobals "nested" = some (some (.ref f5))) (l5 : K.lookup f5 = some ⟨oc5, od5, .func (PySem.W.fnOf "nested" "nested" (defArgs s_nested) (defBody s_nested) (defScope s_nested) .none kV5 dc5 pm5 an5 cd5 ct5), sl5⟩) (c5 : PySem.W.codeIn K cd5 "nested" = true) (k5 : PySem.W.keepIn K (.ref f5) = true)
    (a6 : PySem.W.nsIn K mainGlobals "nest" = some (some (.ref f6))) (l6 : K.lookup f6 = some ⟨oc6, od6, .func (PySem.W.fnOf "nest" "nest" (defArgs s_nest) (defBody s_nest) (defScope s_nest) .none kV6 dc6 pm6 an6 cd6 ct6), sl6⟩) (c6 : PySem.W.codeIn K cd6 "nest" = true) (k6 : PySem.W.keepIn K (.ref f6) = true)
    (a7 : PySem.W.nsIn K mainGlobals "layer_attempts" = some (some (.ref f7))) (l7 : K.lookup f7 = some ⟨oc7, od7, .func (PySem.W.fnOf "layer_attempts" "layer_attempts" (defArgs s_layer_attempts) (defBody s_layer_attempts) (defScope s_layer_attempts) .none kV7 dc7 pm7 an7 cd7 ct7), sl7⟩) (c7 : PySem.W.codeIn K cd7 "layer_attempts" = true) (k7 : PySem.W.keepIn K (.ref f7) = true)
    (a8 : PySem.W.nsIn K mainGlobals "layer_waits" = some (some (.ref f8))) (l8 : K.lookup f8 = some ⟨oc8, od8, .func (PySem.W.fnOf "layer_waits" "layer_waits" (defArgs s_layer_waits) (defBody s_layer_waits) (defScope s_layer_waits) .none kV8 dc8 pm8 an8 cd8 ct8), sl8⟩) (c8 : PySem.W.codeIn K cd8 "layer_waits" = true) (k8 : PySem.W.keepIn K (.ref f8) = true)
    (a9 : PySem.W.nsIn K mainGlobals "attempts" = some (some (.ref f9))) (l9 : K.lookup f9 = some ⟨oc9, od9, .func (PySem.W.fnOf "attempts" "attempts" (defArgs s_attempts) (defBody s_attempts) (defScope s_attempts) .none kV9 dc9 pm9 an9 cd9 ct9), sl9⟩) (c9 : PySem.W.codeIn K cd9 "attempts" = true) (k9 : PySem.W.keepIn K (.ref f9) = true)
    (a10 : PySem.W.nsIn K mainGlobals "flatten" = some (some (.ref f10))) (l10 : K.lookup f10 = some ⟨oc10, od10, .func (PySem.W.fnOf "flatten" "flatten" (defArgs s_flatten) (defBody s_flatten) (defScope s_flatten) .none kV10 dc10 pm10 an10 cd10 ct10), sl10⟩) (c10 : PySem.W.codeIn K cd10 "flatten" = true) (k10 : PySem.W.keepIn K (.ref f10) = true)
    (a11 : PySem.W.nsIn K mainGlobals "_law_source" = some (some (.ref f11))) (l11 : K.lookup f11 = some ⟨oc11, od11, .func (PySem.W.fnOf "_law_source" "_law_source" (defArgs s_law_source) (defBody s_law_source) (defScope s_law_source) .none kV11 dc11 pm11 an11 cd11 ct11), sl11⟩) (c11 : PySem.W.codeIn K cd11 "_law_source" = true) (k11 : PySem.W.keepIn K (.ref f11) = true)
    (a12 : PySem.W.nsIn K mainGlobals "_law_draw" = some (some (.ref f12))) (l12 : K.lookup f12 = some ⟨oc12, od12, .func (PySem.W.fnOf "_law_draw" "_law_draw" (defArgs s_law_draw) (defBody s_law_draw) (defScope s_law_draw) .none kV12 dc12 pm12 an12 cd12 ct12), sl12⟩) (c12 : PySem.W.codeIn K cd12 "_law_draw" = true) (k12 : PySem.W.keepIn K (.ref f12) = true)
    (a13 : PySem.W.nsIn K mainGlobals "_law_same" = some (some (.ref f13))) (l13 : K.lookup f13 = some ⟨oc13, od13, .func (PySem.W.fnOf "_law_same" "_law_same" (defArgs s_law_same) (defBody s_law_same) (defScope s_law_same) .none kV13 dc13 pm13 an13 cd13 ct13), sl13⟩) (c13 : PySem.W.codeIn K cd13 "_law_same" = true) (k13 : PySem.W.keepIn K (.ref f13) = true)
    (a14 : PySem.W.nsIn K mainGlobals "_law_wait_drawn" = some (some (.ref f14))) (l14 : K.lookup f14 = some ⟨oc14, od14, .func (PySem.W.fnOf "_law_wait_drawn" "_law_wait_drawn" (defArgs s_law_wait_drawn) (defBody s_law_wait_drawn) (defScope s_law_wait_drawn) .none kV14 dc14 pm14 an14 cd14 ct14), sl14⟩) (c14 : PySem.W.codeIn K cd14 "_law_wait_drawn" = true) (k14 : PySem.W.keepIn K (.ref f14) = true)
    (a15 : PySem.W.nsIn K mainGlobals "_law_policy" = some (some (.ref f15))) (l15 : K.lookup f15 = some ⟨oc15, od15, .func (PySem.W.fnOf "_law_policy" "_law_policy" (defArgs s_law_policy) (defBody s_law_policy) (defScope s_law_policy) .none kV15 dc15 pm15 an15 cd15 ct15), sl15⟩) (c15 : PySem.W.codeIn K cd15 "_law_policy" = true) (k15 : PySem.W.keepIn K (.ref f15) = true)
    (a16 : PySem.W.nsIn K mainGlobals "_law_nesting" = some (some (.ref f16))) (l16 : K.lookup f16 = some ⟨oc16, od16, .func (PySem.W.fnOf "_law_nesting" "_law_nesting" (defArgs s_law_nesting) (defBody s_law_nesting) (defScope s_law_nesting) .none kV16 dc16 pm16 an16 cd16 ct16), sl16⟩) (c16 : PySem.W.codeIn K cd16 "_law_nesting" = true) (k16 : PySem.W.keepIn K (.ref f16) = true)
    (a17 : PySem.W.nsIn K mainGlobals "_law_total" = some (some (.ref f17))) (l17 : K.lookup f17 = some ⟨oc17, od17, .func (PySem.W.fnOf "_law_total" "_law_total" (defArgs s_law_total) (defBody s_law_total) (defScope s_law_total) .none kV17 dc17 pm17 an17 cd17 ct17), sl17⟩) (c17 : PySem.W.codeIn K cd17 "_law_total" = true) (k17 : PySem.W.keepIn K (.ref f17) = true)
    (a18 : PySem.W.nsIn K mainGlobals "_law_error" = some (some (.ref f18))) (l18 : K.lookup f18 = some ⟨oc18, od18, .func (PySem.W.fnOf "_law_error" "_law_error" (defArgs s_law_error) (defBody s_law_error) (defScope s_law_error) .none kV18 dc18 pm18 an18 cd18 ct18), sl18⟩) (c18 : PySem.W.codeIn K cd18 "_law_error" = true) (k18 : PySem.W.keepIn K (.ref f18) = true)
    (a19 : PySem.W.nsIn K mainGlobals "_law_raised" = some (some (.ref f19))) (l19 : K.lookup f19 = some ⟨oc19, od19, .func (PySem.W.fnOf "_law_raised" "_law_raised" (defArgs s_law_raised) (defBody s_law_raised) (defScope s_law_raised) .none kV19 dc19 pm19 an19 cd19 ct19), sl19⟩) (c19 : PySem.W.codeIn K cd19 "_law_raised" = true) (k19 : PySem.W.keepIn K (.ref f19) = true)
    (a20 : PySem.W.nsIn K mainGlobals "_law_below" = some (some (.ref f20))) (l20 : K.lookup f20 = some ⟨oc20, od20, .func (PySem.W.fnOf "_law_below" "_law_below" (defArgs s_law_below) (defBody s_law_below) (defScope s_law_below) .none kV20 dc20 pm20 an20 cd20 ct20), sl20⟩) (c20 : PySem.W.codeIn K cd20 "_law_below" = true) (k20 : PySem.W.keepIn K (.ref f20) = true)
    (a21 : PySem.W.nsIn K mainGlobals "_law_spoilt_waits" = some (some (.ref f21))) (l21 : K.lookup f21 = some ⟨oc21, od21, .func (PySem.W.fnOf "_law_spoilt_waits" "_law_spoilt_waits" (defArgs s_law_spoilt_waits) (defBody s_law_spoilt_waits) (defScope s_law_spoilt_waits) .none kV21 dc21 pm21 an21 cd21 ct21), sl21⟩) (c21 : PySem.W.codeIn K cd21 "_law_spoilt_waits" = true) (k21 : PySem.W.keepIn K (.ref f21) = true)
    (a22 : PySem.W.nsIn K mainGlobals "_law_spoilt_layers" = some (some (.ref f22))) (l22 : K.lookup f22 = some ⟨oc22, od22, .func (PySem.W.fnOf "_law_spoilt_layers" "_law_spoilt_layers" (defArgs s_law_spoilt_layers) (defBody s_law_spoilt_layers) (defScope s_law_spoilt_layers) .none kV22 dc22 pm22 an22 cd22 ct22), sl22⟩) (c22 : PySem.W.codeIn K cd22 "_law_spoilt_layers" = true) (k22 : PySem.W.keepIn K (.ref f22) = true)
    (a23 : PySem.W.nsIn K mainGlobals "_law_first_bad" = some (some (.ref f23))) (l23 : K.lookup f23 = some ⟨oc23, od23, .func (PySem.W.fnOf "_law_first_bad" "_law_first_bad" (defArgs s_law_first_bad) (defBody s_law_first_bad) (defScope s_law_first_bad) .none kV23 dc23 pm23 an23 cd23 ct23), sl23⟩) (c23 : PySem.W.codeIn K cd23 "_law_first_bad" = true) (k23 : PySem.W.keepIn K (.ref f23) = true)
    (a24 : PySem.W.nsIn K mainGlobals "_law_due" = some (some (.ref f24))) (l24 : K.lookup f24 = some ⟨oc24, od24, .func (PySem.W.fnOf "_law_due" "_law_due" (defArgs s_law_due) (defBody s_law_due) (defScope s_law_due) .none kV24 dc24 pm24 an24 cd24 ct24), sl24⟩) (c24 : PySem.W.codeIn K cd24 "_law_due" = true) (k24 : PySem.W.keepIn K (.ref f24) = true)
    (a25 : PySem.W.nsIn K mainGlobals "_law_two_errors" = some (some (.ref f25))) (l25 : K.lookup f25 = some ⟨oc25, od25, .func (PySem.W.fnOf "_law_two_errors" "_law_two_errors" (defArgs s_law_two_errors) (defBody s_law_two_errors) (defScope s_law_two_errors) .none kV25 dc25 pm25 an25 cd25 ct25), sl25⟩) (c25 : PySem.W.codeIn K cd25 "_law_two_errors" = true) (k25 : PySem.W.keepIn K (.ref f25) = true)
    (a26 : PySem.W.nsIn K mainGlobals "law" = some (some (.ref f26))) (l26 : K.lookup f26 = some ⟨oc26, od26, .func (PySem.W.fnOf "law" "law" (defArgs s_law) (defBody s_law) (defScope s_law) .none kV26 dc26 pm26 an26 cd26 ct26), sl26⟩) (c26 : PySem.W.codeIn K cd26 "law" = true) (k26 : PySem.W.keepIn K (.ref f26) = true)
    (z0 : PySem.W.nsIn K mainGlobals "ValueError" = some none)
    (z1 : PySem.W.nsIn K mainGlobals "bool" = some none)
    (z2 : PySem.W.nsIn K mainGlobals "enumerate" = some none)
    (z3 : PySem.W.nsIn K mainGlobals "int" = some none)
    (z4 : PySem.W.nsIn K mainGlobals "isinstance" = some none)
    (z5 : PySem.W.nsIn K mainGlobals "len" = some none)
    (z6 : PySem.W.nsIn K mainGlobals "list" = some none)
    (z7 : PySem.W.nsIn K mainGlobals "max" = some none)
    (z8 : PySem.W.nsIn K mainGlobals "min" = some none)
    (z9 : PySem.W.nsIn K mainGlobals "range" = some none)
    (z10 : PySem.W.nsIn K mainGlobals "repr" = some none)
    (z11 : PySem.W.nsIn K mainGlobals "str" = some none)
    (z12 : PySem.W.nsIn K mainGlobals "tuple" = some none)
    {y0 : Tok} (x0 : PySem.W.nsIn K mainGlobals "MOST_ATTEMPTS" = some (some (.int 10000 y0)))
    : ∃ fd : FuncData, (∀ (s : Shared) (v : Value), BindsTo s fd ⟨[v], []⟩ [("script", v)]) ∧ ∀ base : Heap, K.In base → base.Ns mainGlobals mg → FnG l.prog w K mg base lvl_law fa fd ["script"] (sp_law K) := by
  have e := hfa.symm.trans (PySem.W.mg_of X G a26)
  cases e
  have F0 := fun_mk (st := s_first_negative) l0 c0 k0
  have F1 := fun_mk (st := s_check_waits) l1 c1 k1
  have F2 := fun_mk (st := s_is_valid_layer) l2 c2 k2
  have F3 := fun_mk (st := s_check_nesting) l3 c3 k3
  have F4 := fun_mk (st := s_check_size) l4 c4 k4
  have F5 := fun_mk (st := s_nested) l5 c5 k5
  have F6 := fun_mk (st := s_nest) l6 c6 k6
  have F7 := fun_mk (st := s_layer_attempts) l7 c7 k7
  have F8 := fun_mk (st := s_layer_waits) l8 c8 k8
  have F9 := fun_mk (st := s_attempts) l9 c9 k9
  have F10 := fun_mk (st := s_flatten) l10 c10 k10
  have F11 := fun_mk (st := s_law_source) l11 c11 k11
  have F12 := fun_mk (st := s_law_draw) l12 c12 k12
  have F13 := fun_mk (st := s_law_same) l13 c13 k13
  have F14 := fun_mk (st := s_law_wait_drawn) l14 c14 k14
  have F15 := fun_mk (st := s_law_policy) l15 c15 k15
  have F16 := fun_mk (st := s_law_nesting) l16 c16 k16
  have F17 := fun_mk (st := s_law_total) l17 c17 k17
  have F18 := fun_mk (st := s_law_error) l18 c18 k18
  have F19 := fun_mk (st := s_law_raised) l19 c19 k19
  have F20 := fun_mk (st := s_law_below) l20 c20 k20
  have F21 := fun_mk (st := s_law_spoilt_waits) l21 c21 k21
  have F22 := fun_mk (st := s_law_spoilt_layers) l22 c22 k22
  have F23 := fun_mk (st := s_law_first_bad) l23 c23 k23
  have F24 := fun_mk (st := s_law_due) l24 c24 k24
  have F25 := fun_mk (st := s_law_two_errors) l25 c25 k25
  have F26 := fun_mk (st := s_law) l26 c26 k26
  have b0 := F0.binds (ps := ["waits"]) fun _ _ _ _ _ _ us hl => match us, hl with | [_], _ => rfl
  have b1 := F1.binds (ps := ["waits"]) fun _ _ _ _ _ _ us hl => match us, hl with | [_], _ => rfl
  have b2 := F2.binds (ps := ["layer"]) fun _ _ _ _ _ _ us hl => match us, hl with | [_], _ => rfl
  have b3 := F3.binds (ps := ["nesting"]) fun _ _ _ _ _ _ us hl => match us, hl with | [_], _ => rfl
  have b4 := F4.binds (ps := ["total"]) fun _ _ _ _ _ _ us hl => match us, hl with | [_], _ => rfl
  have b5 := F5.binds (ps := ["inner", "outer"]) fun _ _ _ _ _ _ us hl => match us, hl with | [_, _], _ => rfl
  have b6 := F6.binds (ps := ["inner", "outer"]) fun _ _ _ _ _ _ us hl => match us, hl with | [_, _], _ => rfl
  have b7 := F7.binds (ps := ["layer"]) fun _ _ _ _ _ _ us hl => match us, hl with | [_], _ => rfl
  have b8 := F8.binds (ps := ["layer"]) fun _ _ _ _ _ _ us hl => match us, hl with | [_], _ => rfl
  have b9 := F9.binds (ps := ["nesting"]) fun _ _ _ _ _ _ us hl => match us, hl with | [_], _ => rfl
  have b10 := F10.binds (ps := ["nesting"]) fun _ _ _ _ _ _ us hl => match us, hl with | [_], _ => rfl
  have b11 := F11.binds (ps := ["script"]) fun _ _ _ _ _ _ us hl => match us, hl with | [_], _ => rfl
  have b12 := F12.binds (ps := ["source", "many"]) fun _ _ _ _ _ _ us hl => match us, hl with | [_, _], _ => rfl
  have b13 := F13.binds (ps := ["found", "wanted"]) fun _ _ _ _ _ _ us hl => match us, hl with | [_, _], _ => rfl
  have b14 := F14.binds (ps := ["source"]) fun _ _ _ _ _ _ us hl => match us, hl with | [_], _ => rfl
  have b15 := F15.binds (ps := ["source", "most"]) fun _ _ _ _ _ _ us hl => match us, hl with | [_, _], _ => rfl
  have b16 := F16.binds (ps := ["source", "layers", "most"]) fun _ _ _ _ _ _ us hl => match us, hl with | [_, _, _], _ => rfl
  have b17 := F17.binds (ps := ["layers"]) fun _ _ _ _ _ _ us hl => match us, hl with | [_], _ => rfl
  have b18 := F18.binds (ps := ["e"]) fun _ _ _ _ _ _ us hl => match us, hl with | [_], _ => rfl
  have b19 := F19.binds (ps := ["door", "one", "other"]) fun _ _ _ _ _ _ us hl => match us, hl with | [_, _, _], _ => rfl
  have b20 := F20.binds (ps := ["source"]) fun _ _ _ _ _ _ us hl => match us, hl with | [_], _ => rfl
  have b21 := F21.binds (ps := ["source", "some"]) fun _ _ _ _ _ _ us hl => match us, hl with | [_, _], _ => rfl
  have b22 := F22.binds (ps := ["source", "layers"]) fun _ _ _ _ _ _ us hl => match us, hl with | [_, _], _ => rfl
  have b23 := F23.binds (ps := ["layers"]) fun _ _ _ _ _ _ us hl => match us, hl with | [_], _ => rfl
  have b24 := F24.binds (ps := ["door", "one", "other"]) fun _ _ _ _ _ _ us hl => match us, hl with | [_, _, _], _ => rfl
  have b25 := F25.binds (ps := ["source"]) fun _ _ _ _ _ _ us hl => match us, hl with | [_], _ => rfl
  have b26 := F26.binds (ps := ["script"]) fun _ _ _ _ _ _ us hl => match us, hl with | [_], _ => rfl
  have T : Txt l.prog K mg := ⟨_, _, PySem.VeX.ve_mk X G aC_InvalidLayer aS xL_InvalidLayer (by with_unfolding_all rfl) sa_InvalidLayer ga_InvalidLayer gg_InvalidLayer nN_InvalidLayer iC_InvalidLayer tC_InvalidLayer kC_InvalidLayer eC_InvalidLayer vC_InvalidLayer yC_InvalidLayer hC_InvalidLayer mC_InvalidLayer (PySem.VeX.ve_sup xL_InvalidLayer xR_InvalidLayer fR_InvalidLayer) op top lI_InvalidLayer cI_InvalidLayer rfl cd_InvalidLayer fv_InvalidLayer fm_InvalidLayer ce_InvalidLayer, _, _, PySem.VeX.ve_mk X G aC_InvalidNumber aS xL_InvalidNumber (by with_unfolding_all rfl) sa_InvalidNumber ga_InvalidNumber gg_InvalidNumber nN_InvalidNumber iC_InvalidNumber tC_InvalidNumber kC_InvalidNumber eC_InvalidNumber vC_InvalidNumber yC_InvalidNumber hC_InvalidNumber mC_InvalidNumber (PySem.VeX.ve_sup xL_InvalidNumber xR_InvalidNumber fR_InvalidNumber) op top lI_InvalidNumber cI_InvalidNumber rfl cd_InvalidNumber fv_InvalidNumber fm_InvalidNumber ce_InvalidNumber, _, _, PySem.VeX.ve_mk X G aC_InvalidWait aS xL_InvalidWait (by with_unfolding_all rfl) sa_InvalidWait ga_InvalidWait gg_InvalidWait nN_InvalidWait iC_InvalidWait tC_InvalidWait kC_InvalidWait eC_InvalidWait vC_InvalidWait yC_InvalidWait hC_InvalidWait mC_InvalidWait (PySem.VeX.ve_sup xL_InvalidWait xR_InvalidWait fR_InvalidWait) op top lI_InvalidWait cI_InvalidWait rfl cd_InvalidWait fv_InvalidWait fm_InvalidWait ce_InvalidWait, _, _, PySem.VeX.ve_mk X G aC_NoMoreAttempts aS xL_NoMoreAttempts (by with_unfolding_all rfl) sa_NoMoreAttempts ga_NoMoreAttempts gg_NoMoreAttempts nN_NoMoreAttempts iC_NoMoreAttempts tC_NoMoreAttempts kC_NoMoreAttempts eC_NoMoreAttempts vC_NoMoreAttempts yC_NoMoreAttempts hC_NoMoreAttempts mC_NoMoreAttempts (PySem.VeX.ve_sup xL_NoMoreAttempts xR_NoMoreAttempts fR_NoMoreAttempts) op top lI_NoMoreAttempts cI_NoMoreAttempts rfl cd_NoMoreAttempts fv_NoMoreAttempts fm_NoMoreAttempts ce_NoMoreAttempts, _, _, PySem.VeX.ve_mk X G aC_TooManyAttempts aS xL_TooManyAttempts (by with_unfolding_all rfl) sa_TooManyAttempts ga_TooManyAttempts gg_TooManyAttempts nN_TooManyAttempts iC_TooManyAttempts tC_TooManyAttempts kC_TooManyAttempts eC_TooManyAttempts vC_TooManyAttempts yC_TooManyAttempts hC_TooManyAttempts mC_TooManyAttempts (PySem.VeX.ve_sup xL_TooManyAttempts xR_TooManyAttempts fR_TooManyAttempts) op top lI_TooManyAttempts cI_TooManyAttempts rfl cd_TooManyAttempts fv_TooManyAttempts fm_TooManyAttempts ce_TooManyAttempts, _, _, PySem.VeX.ve_mk X G aC_Unreadable aS xL_Unreadable (by with_unfolding_all rfl) sa_Unreadable ga_Unreadable gg_Unreadable nN_Unreadable iC_Unreadable tC_Unreadable kC_Unreadable eC_Unreadable vC_Unreadable yC_Unreadable hC_Unreadable mC_Unreadable (PySem.VeX.ve_sup xL_Unreadable xR_Unreadable fR_Unreadable) op top lI_Unreadable cI_Unreadable rfl cd_Unreadable fv_Unreadable fm_Unreadable ce_Unreadable, _, PySem.W.mg_of X G aC_RetryError, PySem.W.mg_of X G aC_InvalidLayer, PySem.W.mg_of X G aC_InvalidNumber, PySem.W.mg_of X G aC_InvalidWait, PySem.W.mg_of X G aC_NoMoreAttempts, PySem.W.mg_of X G aC_TooManyAttempts, PySem.W.mg_of X G aC_Unreadable, ⟨ga_InvalidLayer, gg_InvalidLayer, eC_InvalidLayer, hC_InvalidLayer, xa_InvalidLayer, xn, xt, xm_InvalidLayer⟩, ⟨ga_InvalidNumber, gg_InvalidNumber, eC_InvalidNumber, hC_InvalidNumber, xa_InvalidNumber, xn, xt, xm_InvalidNumber⟩, ⟨ga_InvalidWait, gg_InvalidWait, eC_InvalidWait, hC_InvalidWait, xa_InvalidWait, xn, xt, xm_InvalidWait⟩, ⟨ga_NoMoreAttempts, gg_NoMoreAttempts, eC_NoMoreAttempts, hC_NoMoreAttempts, xa_NoMoreAttempts, xn, xt, xm_NoMoreAttempts⟩, ⟨ga_TooManyAttempts, gg_TooManyAttempts, eC_TooManyAttempts, hC_TooManyAttempts, xa_TooManyAttempts, xn, xt, xm_TooManyAttempts⟩, ⟨ga_Unreadable, gg_Unreadable, eC_Unreadable, hC_Unreadable, xa_Unreadable, xn, xt, xm_Unreadable⟩, Rn.exm_is eC_RetryError ic_RetryError yC_RetryError te_InvalidLayer_RetryError, Rn.exm_is eC_RetryError ic_RetryError yC_RetryError te_InvalidNumber_RetryError, Rn.exm_is eC_RetryError ic_RetryError yC_RetryError te_InvalidWait_RetryError, Rn.exm_is eC_RetryError ic_RetryError yC_RetryError te_NoMoreAttempts_RetryError, Rn.exm_is eC_RetryError ic_RetryError yC_RetryError te_TooManyAttempts_RetryError, Rn.exm_is eC_RetryError ic_RetryError yC_RetryError te_Unreadable_RetryError, is_InvalidLayer_InvalidNumber, is_InvalidLayer_InvalidWait, is_InvalidLayer_NoMoreAttempts, is_InvalidLayer_RetryError, is_InvalidLayer_TooManyAttempts, is_InvalidLayer_Unreadable, is_InvalidNumber_InvalidLayer, is_InvalidNumber_InvalidWait, is_InvalidNumber_NoMoreAttempts, is_InvalidNumber_RetryError, is_InvalidNumber_TooManyAttempts, is_InvalidNumber_Unreadable, is_InvalidWait_InvalidLayer, is_InvalidWait_InvalidNumber, is_InvalidWait_NoMoreAttempts, is_InvalidWait_RetryError, is_InvalidWait_TooManyAttempts, is_InvalidWait_Unreadable, is_NoMoreAttempts_InvalidLayer, is_NoMoreAttempts_InvalidNumber, is_NoMoreAttempts_InvalidWait, is_NoMoreAttempts_RetryError, is_NoMoreAttempts_TooManyAttempts, is_NoMoreAttempts_Unreadable, is_TooManyAttempts_InvalidLayer, is_TooManyAttempts_InvalidNumber, is_TooManyAttempts_InvalidWait, is_TooManyAttempts_NoMoreAttempts, is_TooManyAttempts_RetryError, is_TooManyAttempts_Unreadable, is_Unreadable_InvalidLayer, is_Unreadable_InvalidNumber, is_Unreadable_InvalidWait, is_Unreadable_NoMoreAttempts, is_Unreadable_RetryError, is_Unreadable_TooManyAttempts, f0, _, F0, PySem.W.mg_of X G a0, b0, f1, _, F1, PySem.W.mg_of X G a1, b1, f2, _, F2, PySem.W.mg_of X G a2, b2, f3, _, F3, PySem.W.mg_of X G a3, b3, f4, _, F4, PySem.W.mg_of X G a4, b4, f5, _, F5, PySem.W.mg_of X G a5, b5, f6, _, F6, PySem.W.mg_of X G a6, b6, f7, _, F7, PySem.W.mg_of X G a7, b7, f8, _, F8, PySem.W.mg_of X G a8, b8, f9, _, F9, PySem.W.mg_of X G a9, b9, f10, _, F10, PySem.W.mg_of X G a10, b10, f11, _, F11, PySem.W.mg_of X G a11, b11, f12, _, F12, PySem.W.mg_of X G a12, b12, f13, _, F13, PySem.W.mg_of X G a13, b13, f14, _, F14, PySem.W.mg_of X G a14, b14, f15, _, F15, PySem.W.mg_of X G a15, b15, f16, _, F16, PySem.W.mg_of X G a16, b16, f17, _, F17, PySem.W.mg_of X G a17, b17, f18, _, F18, PySem.W.mg_of X G a18, b18, f19, _, F19, PySem.W.mg_of X G a19, b19, f20, _, F20, PySem.W.mg_of X G a20, b20, f21, _, F21, PySem.W.mg_of X G a21, b21, f22, _, F22, PySem.W.mg_of X G a22, b22, f23, _, F23, PySem.W.mg_of X G a23, b23, f24, _, F24, PySem.W.mg_of X G a24, b24, f25, _, F25, PySem.W.mg_of X G a25, b25, fa, _, F26, PySem.W.mg_of X G a26, b26, PySem.W.mg_none_of X G z0, PySem.W.mg_none_of X G z1, PySem.W.mg_none_of X G z2, PySem.W.mg_none_of X G z3, PySem.W.mg_none_of X G z4, PySem.W.mg_none_of X G z5, PySem.W.mg_none_of X G z6, PySem.W.mg_none_of X G z7, PySem.W.mg_none_of X G z8, PySem.W.mg_none_of X G z9, PySem.W.mg_none_of X G z10, PySem.W.mg_none_of X G z11, PySem.W.mg_none_of X G z12, _, PySem.W.mg_of X G x0⟩
  exact ⟨_, fun s v => .of_eq rfl, fun base _ _ => ok_law ⟨_, _, PySem.VeX.ve_mk X G aC_InvalidLayer aS xL_InvalidLayer (by with_unfolding_all rfl) sa_InvalidLayer ga_InvalidLayer gg_InvalidLayer nN_InvalidLayer iC_InvalidLayer tC_InvalidLayer kC_InvalidLayer eC_InvalidLayer vC_InvalidLayer yC_InvalidLayer hC_InvalidLayer mC_InvalidLayer (PySem.VeX.ve_sup xL_InvalidLayer xR_InvalidLayer fR_InvalidLayer) op top lI_InvalidLayer cI_InvalidLayer rfl cd_InvalidLayer fv_InvalidLayer fm_InvalidLayer ce_InvalidLayer, _, _, PySem.VeX.ve_mk X G aC_InvalidNumber aS xL_InvalidNumber (by with_unfolding_all rfl) sa_InvalidNumber ga_InvalidNumber gg_InvalidNumber nN_InvalidNumber iC_InvalidNumber tC_InvalidNumber kC_InvalidNumber eC_InvalidNumber vC_InvalidNumber yC_InvalidNumber hC_InvalidNumber mC_InvalidNumber (PySem.VeX.ve_sup xL_InvalidNumber xR_InvalidNumber fR_InvalidNumber) op top lI_InvalidNumber cI_InvalidNumber rfl cd_InvalidNumber fv_InvalidNumber fm_InvalidNumber ce_InvalidNumber, _, _, PySem.VeX.ve_mk X G aC_InvalidWait aS xL_InvalidWait (by with_unfolding_all rfl) sa_InvalidWait ga_InvalidWait gg_InvalidWait nN_InvalidWait iC_InvalidWait tC_InvalidWait kC_InvalidWait eC_InvalidWait vC_InvalidWait yC_InvalidWait hC_InvalidWait mC_InvalidWait (PySem.VeX.ve_sup xL_InvalidWait xR_InvalidWait fR_InvalidWait) op top lI_InvalidWait cI_InvalidWait rfl cd_InvalidWait fv_InvalidWait fm_InvalidWait ce_InvalidWait, _, _, PySem.VeX.ve_mk X G aC_NoMoreAttempts aS xL_NoMoreAttempts (by with_unfolding_all rfl) sa_NoMoreAttempts ga_NoMoreAttempts gg_NoMoreAttempts nN_NoMoreAttempts iC_NoMoreAttempts tC_NoMoreAttempts kC_NoMoreAttempts eC_NoMoreAttempts vC_NoMoreAttempts yC_NoMoreAttempts hC_NoMoreAttempts mC_NoMoreAttempts (PySem.VeX.ve_sup xL_NoMoreAttempts xR_NoMoreAttempts fR_NoMoreAttempts) op top lI_NoMoreAttempts cI_NoMoreAttempts rfl cd_NoMoreAttempts fv_NoMoreAttempts fm_NoMoreAttempts ce_NoMoreAttempts, _, _, PySem.VeX.ve_mk X G aC_TooManyAttempts aS xL_TooManyAttempts (by with_unfolding_all rfl) sa_TooManyAttempts ga_TooManyAttempts gg_TooManyAttempts nN_TooManyAttempts iC_TooManyAttempts tC_TooManyAttempts kC_TooManyAttempts eC_TooManyAttempts vC_TooManyAttempts yC_TooManyAttempts hC_TooManyAttempts mC_TooManyAttempts (PySem.VeX.ve_sup xL_TooManyAttempts xR_TooManyAttempts fR_TooManyAttempts) op top lI_TooManyAttempts cI_TooManyAttempts rfl cd_TooManyAttempts fv_TooManyAttempts fm_TooManyAttempts ce_TooManyAttempts, _, _, PySem.VeX.ve_mk X G aC_Unreadable aS xL_Unreadable (by with_unfolding_all rfl) sa_Unreadable ga_Unreadable gg_Unreadable nN_Unreadable iC_Unreadable tC_Unreadable kC_Unreadable eC_Unreadable vC_Unreadable yC_Unreadable hC_Unreadable mC_Unreadable (PySem.VeX.ve_sup xL_Unreadable xR_Unreadable fR_Unreadable) op top lI_Unreadable cI_Unreadable rfl cd_Unreadable fv_Unreadable fm_Unreadable ce_Unreadable, _, PySem.W.mg_of X G aC_RetryError, PySem.W.mg_of X G aC_InvalidLayer, PySem.W.mg_of X G aC_InvalidNumber, PySem.W.mg_of X G aC_InvalidWait, PySem.W.mg_of X G aC_NoMoreAttempts, PySem.W.mg_of X G aC_TooManyAttempts, PySem.W.mg_of X G aC_Unreadable, ⟨ga_InvalidLayer, gg_InvalidLayer, eC_InvalidLayer, hC_InvalidLayer, xa_InvalidLayer, xn, xt, xm_InvalidLayer⟩, ⟨ga_InvalidNumber, gg_InvalidNumber, eC_InvalidNumber, hC_InvalidNumber, xa_InvalidNumber, xn, xt, xm_InvalidNumber⟩, ⟨ga_InvalidWait, gg_InvalidWait, eC_InvalidWait, hC_InvalidWait, xa_InvalidWait, xn, xt, xm_InvalidWait⟩, ⟨ga_NoMoreAttempts, gg_NoMoreAttempts, eC_NoMoreAttempts, hC_NoMoreAttempts, xa_NoMoreAttempts, xn, xt, xm_NoMoreAttempts⟩, ⟨ga_TooManyAttempts, gg_TooManyAttempts, eC_TooManyAttempts, hC_TooManyAttempts, xa_TooManyAttempts, xn, xt, xm_TooManyAttempts⟩, ⟨ga_Unreadable, gg_Unreadable, eC_Unreadable, hC_Unreadable, xa_Unreadable, xn, xt, xm_Unreadable⟩, Rn.exm_is eC_RetryError ic_RetryError yC_RetryError te_InvalidLayer_RetryError, Rn.exm_is eC_RetryError ic_RetryError yC_RetryError te_InvalidNumber_RetryError, Rn.exm_is eC_RetryError ic_RetryError yC_RetryError te_InvalidWait_RetryError, Rn.exm_is eC_RetryError ic_RetryError yC_RetryError te_NoMoreAttempts_RetryError, Rn.exm_is eC_RetryError ic_RetryError yC_RetryError te_TooManyAttempts_RetryError, Rn.exm_is eC_RetryError ic_RetryError yC_RetryError te_Unreadable_RetryError, is_InvalidLayer_InvalidNumber, is_InvalidLayer_InvalidWait, is_InvalidLayer_NoMoreAttempts, is_InvalidLayer_RetryError, is_InvalidLayer_TooManyAttempts, is_InvalidLayer_Unreadable, is_InvalidNumber_InvalidLayer, is_InvalidNumber_InvalidWait, is_InvalidNumber_NoMoreAttempts, is_InvalidNumber_RetryError, is_InvalidNumber_TooManyAttempts, is_InvalidNumber_Unreadable, is_InvalidWait_InvalidLayer, is_InvalidWait_InvalidNumber, is_InvalidWait_NoMoreAttempts, is_InvalidWait_RetryError, is_InvalidWait_TooManyAttempts, is_InvalidWait_Unreadable, is_NoMoreAttempts_InvalidLayer, is_NoMoreAttempts_InvalidNumber, is_NoMoreAttempts_InvalidWait, is_NoMoreAttempts_RetryError, is_NoMoreAttempts_TooManyAttempts, is_NoMoreAttempts_Unreadable, is_TooManyAttempts_InvalidLayer, is_TooManyAttempts_InvalidNumber, is_TooManyAttempts_InvalidWait, is_TooManyAttempts_NoMoreAttempts, is_TooManyAttempts_RetryError, is_TooManyAttempts_Unreadable, is_Unreadable_InvalidLayer, is_Unreadable_InvalidNumber, is_Unreadable_InvalidWait, is_Unreadable_NoMoreAttempts, is_Unreadable_RetryError, is_Unreadable_TooManyAttempts, f0, _, F0, PySem.W.mg_of X G a0, b0, f1, _, F1, PySem.W.mg_of X G a1, b1, f2, _, F2, PySem.W.mg_of X G a2, b2, f3, _, F3, PySem.W.mg_of X G a3, b3, f4, _, F4, PySem.W.mg_of X G a4, b4, f5, _, F5, PySem.W.mg_of X G a5, b5, f6, _, F6, PySem.W.mg_of X G a6, b6, f7, _, F7, PySem.W.mg_of X G a7, b7, f8, _, F8, PySem.W.mg_of X G a8, b8, f9, _, F9, PySem.W.mg_of X G a9, b9, f10, _, F10, PySem.W.mg_of X G a10, b10, f11, _, F11, PySem.W.mg_of X G a11, b11, f12, _, F12, PySem.W.mg_of X G a12, b12, f13, _, F13, PySem.W.mg_of X G a13, b13, f14, _, F14, PySem.W.mg_of X G a14, b14, f15, _, F15, PySem.W.mg_of X G a15, b15, f16, _, F16, PySem.W.mg_of X G a16, b16, f17, _, F17, PySem.W.mg_of X G a17, b17, f18, _, F18, PySem.W.mg_of X G a18, b18, f19, _, F19, PySem.W.mg_of X G a19, b19, f20, _, F20, PySem.W.mg_of X G a20, b20, f21, _, F21, PySem.W.mg_of X G a21, b21, f22, _, F22, PySem.W.mg_of X G a22, b22, f23, _, F23, PySem.W.mg_of X G a23, b23, f24, _, F24, PySem.W.mg_of X G a24, b24, f25, _, F25, PySem.W.mg_of X G a25, b25, fa, _, F26, PySem.W.mg_of X G a26, b26, PySem.W.mg_none_of X G z0, PySem.W.mg_none_of X G z1, PySem.W.mg_none_of X G z2, PySem.W.mg_none_of X G z3, PySem.W.mg_none_of X G z4, PySem.W.mg_none_of X G z5, PySem.W.mg_none_of X G z6, PySem.W.mg_none_of X G z7, PySem.W.mg_none_of X G z8, PySem.W.mg_none_of X G z9, PySem.W.mg_none_of X G z10, PySem.W.mg_none_of X G z11, PySem.W.mg_none_of X G z12, _, PySem.W.mg_of X G x0⟩⟩
end Rn
open PySem PySem.W PyProof.Rows
set_option maxRecDepth 100000 in
set_option maxHeartbeats 0 in
theorem PySem.Challenge.cw_retrynest_k04_policy_errors_holds : PySem.Challenge.rw_retrynest_k04_policy_errors.Holds := by
  w_on; o_law; k_head; (case hw => w_witness2)
  k_fill
  refine Rn.walk_G (l := PySem.Challenge.rw_retrynest_k04_policy_errors) (k := Rn.lvl_law) (sp := Rn.sp_law) rfl rfl ⟨rfl, by decide, by decide⟩ (fun w h Y => PySem.W.kIn_of Y) ?F (fun _ _ a ns hl hS => ⟨a, ns, rfl, hS, hl, fun _ => rfl⟩)
  case F =>
    intro w mg fa h KX G hmg
    refine' Rn.all_mk KX G hmg ?aC_InvalidLayer ?xL_InvalidLayer ?sa_InvalidLayer ?ga_InvalidLayer ?gg_InvalidLayer ?nN_InvalidLayer ?iC_InvalidLayer ?tC_InvalidLayer ?kC_InvalidLayer ?eC_InvalidLayer ?vC_InvalidLayer ?yC_InvalidLayer ?hC_InvalidLayer ?mC_InvalidLayer ?xR_InvalidLayer ?fR_InvalidLayer ?lI_InvalidLayer ?cI_InvalidLayer ?cd_InvalidLayer ?fv_InvalidLayer ?fm_InvalidLayer ?ce_InvalidLayer ?ic_InvalidLayer ?aC_InvalidNumber ?xL_InvalidNumber ?sa_InvalidNumber ?ga_InvalidNumber ?gg_InvalidNumber ?nN_InvalidNumber ?iC_InvalidNumber ?tC_InvalidNumber ?kC_InvalidNumber ?eC_InvalidNumber ?vC_InvalidNumber ?yC_InvalidNumber ?hC_InvalidNumber ?mC_InvalidNumber ?xR_InvalidNumber ?fR_InvalidNumber ?lI_InvalidNumber ?cI_InvalidNumber ?cd_InvalidNumber ?fv_InvalidNumber ?fm_InvalidNumber ?ce_InvalidNumber ?ic_InvalidNumber ?aC_InvalidWait ?xL_InvalidWait ?sa_InvalidWait ?ga_InvalidWait ?gg_InvalidWait ?nN_InvalidWait ?iC_InvalidWait ?tC_InvalidWait ?kC_InvalidWait ?eC_InvalidWait ?vC_InvalidWait ?yC_InvalidWait ?hC_InvalidWait ?mC_InvalidWait ?xR_InvalidWait ?fR_InvalidWait ?lI_InvalidWait ?cI_InvalidWait ?cd_InvalidWait ?fv_InvalidWait ?fm_InvalidWait ?ce_InvalidWait ?ic_InvalidWait ?aC_NoMoreAttempts ?xL_NoMoreAttempts ?sa_NoMoreAttempts ?ga_NoMoreAttempts ?gg_NoMoreAttempts ?nN_NoMoreAttempts ?iC_NoMoreAttempts ?tC_NoMoreAttempts ?kC_NoMoreAttempts ?eC_NoMoreAttempts ?vC_NoMoreAttempts ?yC_NoMoreAttempts ?hC_NoMoreAttempts ?mC_NoMoreAttempts ?xR_NoMoreAttempts ?fR_NoMoreAttempts ?lI_NoMoreAttempts ?cI_NoMoreAttempts ?cd_NoMoreAttempts ?fv_NoMoreAttempts ?fm_NoMoreAttempts ?ce_NoMoreAttempts ?ic_NoMoreAttempts ?aC_TooManyAttempts ?xL_TooManyAttempts ?sa_TooManyAttempts ?ga_TooManyAttempts ?gg_TooManyAttempts ?nN_TooManyAttempts ?iC_TooManyAttempts ?tC_TooManyAttempts ?kC_TooManyAttempts ?eC_TooManyAttempts ?vC_TooManyAttempts ?yC_TooManyAttempts ?hC_TooManyAttempts ?mC_TooManyAttempts ?xR_TooManyAttempts ?fR_TooManyAttempts ?lI_TooManyAttempts ?cI_TooManyAttempts ?cd_TooManyAttempts ?fv_TooManyAttempts ?fm_TooManyAttempts ?ce_TooManyAttempts ?ic_TooManyAttempts ?aC_Unreadable ?xL_Unreadable ?sa_Unreadable ?ga_Unreadable ?gg_Unreadable ?nN_Unreadable ?iC_Unreadable ?tC_Unreadable ?kC_Unreadable ?eC_Unreadable ?vC_Unreadable ?yC_Unreadable ?hC_Unreadable ?mC_Unreadable ?xR_Unreadable ?fR_Unreadable ?lI_Unreadable ?cI_Unreadable ?cd_Unreadable ?fv_Unreadable ?fm_Unreadable ?ce_Unreadable ?ic_Unreadable ?aC_RetryError ?ic_RetryError ?eC_RetryError ?yC_RetryError ?xa_InvalidLayer ?xm_InvalidLayer ?xa_InvalidNumber ?xm_InvalidNumber ?xa_InvalidWait ?xm_InvalidWait ?xa_NoMoreAttempts ?xm_NoMoreAttempts ?xa_TooManyAttempts ?xm_TooManyAttempts ?xa_Unreadable ?xm_Unreadable ?xn ?xt ?aS ?op ?top ?te_InvalidLayer_RetryError ?te_InvalidNumber_RetryError ?te_InvalidWait_RetryError ?te_NoMoreAttempts_RetryError ?te_TooManyAttempts_RetryError ?te_Unreadable_RetryError ?is_InvalidLayer_InvalidNumber ?is_InvalidLayer_InvalidWait ?is_InvalidLayer_NoMoreAttempts ?is_InvalidLayer_RetryError ?is_InvalidLayer_TooManyAttempts ?is_InvalidLayer_Unreadable ?is_InvalidNumber_InvalidLayer ?is_InvalidNumber_InvalidWait ?is_InvalidNumber_NoMoreAttempts ?is_InvalidNumber_RetryError ?is_InvalidNumber_TooManyAttempts ?is_InvalidNumber_Unreadable ?is_InvalidWait_InvalidLayer ?is_InvalidWait_InvalidNumber ?is_InvalidWait_NoMoreAttempts ?is_InvalidWait_RetryError ?is_InvalidWait_TooManyAttempts ?is_InvalidWait_Unreadable ?is_NoMoreAttempts_InvalidLayer ?is_NoMoreAttempts_InvalidNumber ?is_NoMoreAttempts_InvalidWait ?is_NoMoreAttempts_RetryError ?is_NoMoreAttempts_TooManyAttempts ?is_NoMoreAttempts_Unreadable ?is_TooManyAttempts_InvalidLayer ?is_TooManyAttempts_InvalidNumber ?is_TooManyAttempts_InvalidWait ?is_TooManyAttempts_NoMoreAttempts ?is_TooManyAttempts_RetryError ?is_TooManyAttempts_Unreadable ?is_Unreadable_InvalidLayer ?is_Unreadable_InvalidNumber ?is_Unreadable_InvalidWait ?is_Unreadable_NoMoreAttempts ?is_Unreadable_RetryError ?is_Unreadable_TooManyAttempts ?a0 ?l0 ?c0 ?k0 ?a1 ?l1 ?c1 ?k1 ?a2 ?l2 ?c2 ?k2 ?a3 ?l3 ?c3 ?k3 ?a4 ?l4 ?c4 ?k4 ?a5 ?l5 ?c5 ?k5 ?a6 ?l6 ?c6 ?k6 ?a7 ?l7 ?c7 ?k7 ?a8 ?l8 ?c8 ?k8 ?a9 ?l9 ?c9 ?k9 ?a10 ?l10 ?c10 ?k10 ?a11 ?l11 ?c11 ?k11 ?a12 ?l12 ?c12 ?k12 ?a13 ?l13 ?c13 ?k13 ?a14 ?l14 ?c14 ?k14 ?a15 ?l15 ?c15 ?k15 ?a16 ?l16 ?c16 ?k16 ?a17 ?l17 ?c17 ?k17 ?a18 ?l18 ?c18 ?k18 ?a19 ?l19 ?c19 ?k19 ?a20 ?l20 ?c20 ?k20 ?a21 ?l21 ?c21 ?k21 ?a22 ?l22 ?c22 ?k22 ?a23 ?l23 ?c23 ?k23 ?a24 ?l24 ?c24 ?k24 ?a25 ?l25 ?c25 ?k25 ?a26 ?l26 ?c26 ?k26 ?z0 ?z1 ?z2 ?z3 ?z4 ?z5 ?z6 ?z7 ?z8 ?z9 ?z10 ?z11 ?z12 ?x0
    (case aC_InvalidLayer => k_is); (case xL_InvalidLayer => k_is); (case sa_InvalidLayer => k_is); (case ga_InvalidLayer => k_is); (case gg_InvalidLayer => k_is)
    (case nN_InvalidLayer => k_is); (case iC_InvalidLayer => k_is); (case tC_InvalidLayer => k_is); (case kC_InvalidLayer => k_is); (case eC_InvalidLayer => k_is)
    (case vC_InvalidLayer => k_is); (case yC_InvalidLayer => k_is); (case hC_InvalidLayer => k_is); (case mC_InvalidLayer => k_is); (case xR_InvalidLayer => k_is)
    (case fR_InvalidLayer => k_is); (case lI_InvalidLayer => k_is); (case cI_InvalidLayer => k_is); (case cd_InvalidLayer => k_is); (case fv_InvalidLayer => first | rfl | decide +kernel | k_is)
    (case fm_InvalidLayer => first | rfl | decide +kernel | k_is); (case ce_InvalidLayer => k_is); (case ic_InvalidLayer => k_is); (case aC_InvalidNumber => k_is)
    (case xL_InvalidNumber => k_is); (case sa_InvalidNumber => k_is); (case ga_InvalidNumber => k_is); (case gg_InvalidNumber => k_is); (case nN_InvalidNumber => k_is)
    (case iC_InvalidNumber => k_is); (case tC_InvalidNumber => k_is); (case kC_InvalidNumber => k_is); (case eC_InvalidNumber => k_is); (case vC_InvalidNumber => k_is)
    (case yC_InvalidNumber => k_is); (case hC_InvalidNumber => k_is); (case mC_InvalidNumber => k_is); (case xR_InvalidNumber => k_is); (case fR_InvalidNumber => k_is)
    (case lI_InvalidNumber => k_is); (case cI_InvalidNumber => k_is); (case cd_InvalidNumber => k_is); (case fv_InvalidNumber => first | rfl | decide +kernel | k_is)
    (case fm_InvalidNumber => first | rfl | decide +kernel | k_is); (case ce_InvalidNumber => k_is); (case ic_InvalidNumber => k_is); (case aC_InvalidWait => k_is)
    (case xL_InvalidWait => k_is); (case sa_InvalidWait => k_is); (case ga_InvalidWait => k_is); (case gg_InvalidWait => k_is); (case nN_InvalidWait => k_is); (case iC_InvalidWait => k_is)
    (case tC_InvalidWait => k_is); (case kC_InvalidWait => k_is); (case eC_InvalidWait => k_is); (case vC_InvalidWait => k_is); (case yC_InvalidWait => k_is); (case hC_InvalidWait => k_is)
    (case mC_InvalidWait => k_is); (case xR_InvalidWait => k_is); (case fR_InvalidWait => k_is); (case lI_InvalidWait => k_is); (case cI_InvalidWait => k_is); (case cd_InvalidWait => k_is)
    (case fv_InvalidWait => first | rfl | decide +kernel | k_is); (case fm_InvalidWait => first | rfl | decide +kernel | k_is); (case ce_InvalidWait => k_is); (case ic_InvalidWait => k_is)
    (case aC_NoMoreAttempts => k_is); (case xL_NoMoreAttempts => k_is); (case sa_NoMoreAttempts => k_is); (case ga_NoMoreAttempts => k_is); (case gg_NoMoreAttempts => k_is)
    (case nN_NoMoreAttempts => k_is); (case iC_NoMoreAttempts => k_is); (case tC_NoMoreAttempts => k_is); (case kC_NoMoreAttempts => k_is); (case eC_NoMoreAttempts => k_is)
    (case vC_NoMoreAttempts => k_is); (case yC_NoMoreAttempts => k_is); (case hC_NoMoreAttempts => k_is); (case mC_NoMoreAttempts => k_is); (case xR_NoMoreAttempts => k_is)
    (case fR_NoMoreAttempts => k_is); (case lI_NoMoreAttempts => k_is); (case cI_NoMoreAttempts => k_is); (case cd_NoMoreAttempts => k_is); (case fv_NoMoreAttempts => first | rfl | decide +kernel | k_is)
    (case fm_NoMoreAttempts => first | rfl | decide +kernel | k_is); (case ce_NoMoreAttempts => k_is); (case ic_NoMoreAttempts => k_is); (case aC_TooManyAttempts => k_is)
    (case xL_TooManyAttempts => k_is); (case sa_TooManyAttempts => k_is); (case ga_TooManyAttempts => k_is); (case gg_TooManyAttempts => k_is); (case nN_TooManyAttempts => k_is)
    (case iC_TooManyAttempts => k_is); (case tC_TooManyAttempts => k_is); (case kC_TooManyAttempts => k_is); (case eC_TooManyAttempts => k_is); (case vC_TooManyAttempts => k_is)
    (case yC_TooManyAttempts => k_is); (case hC_TooManyAttempts => k_is); (case mC_TooManyAttempts => k_is); (case xR_TooManyAttempts => k_is); (case fR_TooManyAttempts => k_is)
    (case lI_TooManyAttempts => k_is); (case cI_TooManyAttempts => k_is); (case cd_TooManyAttempts => k_is); (case fv_TooManyAttempts => first | rfl | decide +kernel | k_is)
    (case fm_TooManyAttempts => first | rfl | decide +kernel | k_is); (case ce_TooManyAttempts => k_is); (case ic_TooManyAttempts => k_is); (case aC_Unreadable => k_is)
    (case xL_Unreadable => k_is); (case sa_Unreadable => k_is); (case ga_Unreadable => k_is); (case gg_Unreadable => k_is); (case nN_Unreadable => k_is); (case iC_Unreadable => k_is)
    (case tC_Unreadable => k_is); (case kC_Unreadable => k_is); (case eC_Unreadable => k_is); (case vC_Unreadable => k_is); (case yC_Unreadable => k_is); (case hC_Unreadable => k_is)
    (case mC_Unreadable => k_is); (case xR_Unreadable => k_is); (case fR_Unreadable => k_is); (case lI_Unreadable => k_is); (case cI_Unreadable => k_is); (case cd_Unreadable => k_is)
    (case fv_Unreadable => first | rfl | decide +kernel | k_is); (case fm_Unreadable => first | rfl | decide +kernel | k_is); (case ce_Unreadable => k_is); (case ic_Unreadable => k_is)
    (case aC_RetryError => k_is); (case ic_RetryError => k_is); (case eC_RetryError => k_is); (case yC_RetryError => k_is); (case xa_InvalidLayer => k_is); (case xm_InvalidLayer => k_is)
    (case xa_InvalidNumber => k_is); (case xm_InvalidNumber => k_is); (case xa_InvalidWait => k_is); (case xm_InvalidWait => k_is); (case xa_NoMoreAttempts => k_is)
    (case xm_NoMoreAttempts => k_is); (case xa_TooManyAttempts => k_is); (case xm_TooManyAttempts => k_is); (case xa_Unreadable => k_is); (case xm_Unreadable => k_is)
    (case xn => k_is); (case xt => k_is); (case aS => k_is); (case op => k_is); (case top => first | rfl | decide +kernel); (case te_InvalidLayer_RetryError => first | rfl | k_is)
    (case te_InvalidNumber_RetryError => first | rfl | k_is); (case te_InvalidWait_RetryError => first | rfl | k_is); (case te_NoMoreAttempts_RetryError => first | rfl | k_is)
    (case te_TooManyAttempts_RetryError => first | rfl | k_is); (case te_Unreadable_RetryError => first | rfl | k_is); (case is_InvalidLayer_InvalidNumber => first | rfl | k_is)
    (case is_InvalidLayer_InvalidWait => first | rfl | k_is); (case is_InvalidLayer_NoMoreAttempts => first | rfl | k_is); (case is_InvalidLayer_RetryError => first | rfl | k_is)
    (case is_InvalidLayer_TooManyAttempts => first | rfl | k_is); (case is_InvalidLayer_Unreadable => first | rfl | k_is); (case is_InvalidNumber_InvalidLayer => first | rfl | k_is)
    (case is_InvalidNumber_InvalidWait => first | rfl | k_is); (case is_InvalidNumber_NoMoreAttempts => first | rfl | k_is); (case is_InvalidNumber_RetryError => first | rfl | k_is)
    (case is_InvalidNumber_TooManyAttempts => first | rfl | k_is); (case is_InvalidNumber_Unreadable => first | rfl | k_is); (case is_InvalidWait_InvalidLayer => first | rfl | k_is)
    (case is_InvalidWait_InvalidNumber => first | rfl | k_is); (case is_InvalidWait_NoMoreAttempts => first | rfl | k_is); (case is_InvalidWait_RetryError => first | rfl | k_is)
    (case is_InvalidWait_TooManyAttempts => first | rfl | k_is); (case is_InvalidWait_Unreadable => first | rfl | k_is); (case is_NoMoreAttempts_InvalidLayer => first | rfl | k_is)
    (case is_NoMoreAttempts_InvalidNumber => first | rfl | k_is); (case is_NoMoreAttempts_InvalidWait => first | rfl | k_is); (case is_NoMoreAttempts_RetryError => first | rfl | k_is)
    (case is_NoMoreAttempts_TooManyAttempts => first | rfl | k_is); (case is_NoMoreAttempts_Unreadable => first | rfl | k_is); (case is_TooManyAttempts_InvalidLayer => first | rfl | k_is)
    (case is_TooManyAttempts_InvalidNumber => first | rfl | k_is); (case is_TooManyAttempts_InvalidWait => first | rfl | k_is); (case is_TooManyAttempts_NoMoreAttempts => first | rfl | k_is)
    (case is_TooManyAttempts_RetryError => first | rfl | k_is); (case is_TooManyAttempts_Unreadable => first | rfl | k_is); (case is_Unreadable_InvalidLayer => first | rfl | k_is)
    (case is_Unreadable_InvalidNumber => first | rfl | k_is); (case is_Unreadable_InvalidWait => first | rfl | k_is); (case is_Unreadable_NoMoreAttempts => first | rfl | k_is)
    (case is_Unreadable_RetryError => first | rfl | k_is); (case is_Unreadable_TooManyAttempts => first | rfl | k_is); (case a0 => k_is); (case l0 => k_is); (case c0 => k_is)
    (case k0 => k_is); (case a1 => k_is); (case l1 => k_is); (case c1 => k_is); (case k1 => k_is); (case a2 => k_is); (case l2 => k_is); (case c2 => k_is); (case k2 => k_is)
    (case a3 => k_is); (case l3 => k_is); (case c3 => k_is); (case k3 => k_is); (case a4 => k_is); (case l4 => k_is); (case c4 => k_is); (case k4 => k_is); (case a5 => k_is)
    (case l5 => k_is); (case c5 => k_is); (case k5 => k_is); (case a6 => k_is); (case l6 => k_is); (case c6 => k_is); (case k6 => k_is); (case a7 => k_is); (case l7 => k_is)
    (case c7 => k_is); (case k7 => k_is); (case a8 => k_is); (case l8 => k_is); (case c8 => k_is); (case k8 => k_is); (case a9 => k_is); (case l9 => k_is); (case c9 => k_is)
    (case k9 => k_is); (case a10 => k_is); (case l10 => k_is); (case c10 => k_is); (case k10 => k_is); (case a11 => k_is); (case l11 => k_is); (case c11 => k_is)
    (case k11 => k_is); (case a12 => k_is); (case l12 => k_is); (case c12 => k_is); (case k12 => k_is); (case a13 => k_is); (case l13 => k_is); (case c13 => k_is)
    (case k13 => k_is); (case a14 => k_is); (case l14 => k_is); (case c14 => k_is); (case k14 => k_is); (case a15 => k_is); (case l15 => k_is); (case c15 => k_is)
    (case k15 => k_is); (case a16 => k_is); (case l16 => k_is); (case c16 => k_is); (case k16 => k_is); (case a17 => k_is); (case l17 => k_is); (case c17 => k_is)
    (case k17 => k_is); (case a18 => k_is); (case l18 => k_is); (case c18 => k_is); (case k18 => k_is); (case a19 => k_is); (case l19 => k_is); (case c19 => k_is)
    (case k19 => k_is); (case a20 => k_is); (case l20 => k_is); (case c20 => k_is); (case k20 => k_is); (case a21 => k_is); (case l21 => k_is); (case c21 => k_is)
    (case k21 => k_is); (case a22 => k_is); (case l22 => k_is); (case c22 => k_is); (case k22 => k_is); (case a23 => k_is); (case l23 => k_is); (case c23 => k_is)
    (case k23 => k_is); (case a24 => k_is); (case l24 => k_is); (case c24 => k_is); (case k24 => k_is); (case a25 => k_is); (case l25 => k_is); (case c25 => k_is)
    (case k25 => k_is); (case a26 => k_is); (case l26 => k_is); (case c26 => k_is); (case k26 => k_is); (case z0 => k_is); (case z1 => k_is); (case z2 => k_is)
    (case z3 => k_is); (case z4 => k_is); (case z5 => k_is); (case z6 => k_is); (case z7 => k_is); (case z8 => k_is); (case z9 => k_is); (case z10 => k_is); (case z11 => k_is)
    (case z12 => k_is); (case x0 => k_is)
