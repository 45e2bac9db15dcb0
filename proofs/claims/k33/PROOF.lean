import PyProof.Rows.All
import Wide.All
import OpenK.AllK
import Wide.FinOn
import HandS.ForMost
import HandS.Wide
import HandS.IsInst
import HandS.NoneIn
import HandS.Small
import HandS.DictComp
import HandS.Evl
import HandS.Zip
import HandS.Walk
import HandS.SetFor
import PySem.Challenge.RW_retrynest_k33_unsplittable_policies_list
set_option Elab.async false
set_option linter.all false
set_option maxRecDepth 100000
set_option maxHeartbeats 4000000
namespace Rn
open PySem PySem.Spec PyProof.Rows L2

/-! ## heaps -/
theorem same_new {H : Hp} {p : Addr} {o : HO} (h : H p = none) : Same H (upd H p o) := fun b x e => by
  rw [upd_ne (ne_of_none e h)]
  exact e
theorem same_keep {H H' : Hp} {p : Addr} {o : HO} (e : Same H H') (h : H p = none) : Same H (upd H' p o) := fun b x q => by
  rw [upd_ne (ne_of_none q h)]
  exact e b x q
theorem sql {K : PySem.W.Frag} {H : Hp} {p : Addr} {xs : List V} (h : H p = some (.lst xs)) : SqL K H p xs := .inl (.inl h)
theorem sqt {K : PySem.W.Frag} {H : Hp} {p : Addr} {xs : List V} (h : H p = some (.tup xs)) : SqT K H p xs := .inl (.inl h)
/-- the source's two objects hidden -/
def hid (a d : Addr) (H : Hp) : Hp := fun b => if b = a ∨ b = d then none else H b
theorem hid_get {a d : Addr} {H : Hp} {b : Addr} {o : HO} (h : hid a d H b = some o) : H b = some o ∧ b ≠ a ∧ b ≠ d := by
  unfold hid at h
  by_cases e : b = a ∨ b = d
  · rw [if_pos e] at h
    cases h
  · rw [if_neg e] at h
    exact ⟨h, fun z => e (.inl z), fun z => e (.inr z)⟩
theorem hid_at {a d : Addr} {H : Hp} {b : Addr} {o : HO} (h : H b = some o) (ha : b ≠ a) (hd : b ≠ d) : hid a d H b = some o := by
  unfold hid
  rw [if_neg (fun z => z.elim ha hd)]
  exact h
theorem hid_none {a d : Addr} {H : Hp} {b : Addr} (h : H b = none) : hid a d H b = none := by
  unfold hid
  split
  · rfl
  · exact h
theorem hid_same {a d : Addr} {H H' : Hp} (e : Same H H') : Same (hid a d H) (hid a d H') := fun b o h => by
  obtain ⟨h1, h2, h3⟩ := hid_get h
  exact hid_at (e _ _ h1) h2 h3
theorem hid_src1 {a d : Addr} {H : Hp} {o : HO} : hid a d (upd H a o) = hid a d H := by
  funext b
  unfold hid
  by_cases e : b = a ∨ b = d
  · rw [if_pos e, if_pos e]
  · rw [if_neg e, if_neg e, upd_ne fun z => e (.inl z)]
theorem hid_src2 {a d : Addr} {H : Hp} {o : HO} : hid a d (upd H d o) = hid a d H := by
  funext b
  unfold hid
  by_cases e : b = a ∨ b = d
  · rw [if_pos e, if_pos e]
  · rw [if_neg e, if_neg e, upd_ne fun z => e (.inr z)]
theorem hid_oth {a d : Addr} {H : Hp} {p : Addr} {o : HO} (ha : p ≠ a) (hd : p ≠ d) : hid a d (upd H p o) = upd (hid a d H) p o := by
  funext b
  by_cases e : b = p
  · rw [e, upd_same]
    exact hid_at upd_same ha hd
  · rw [upd_ne e]
    unfold hid
    rw [upd_ne e]

/-! ## the source of draws: a list at a, its digits at d; at most n draws were mixed -/
def Src (H : Hp) (a d : Addr) (n : Int) : Prop := ∃ (cur mix cnt : Int) (ds : List Int), H a = some (.lst [.ref d, .int cur, .int mix, .int cnt]) ∧ H d = some (.lst (ds.map V.int)) ∧
  0 ≤ mix ∧ mix < 2305843009213693951 ∧ 0 ≤ cnt ∧ cnt ≤ n
theorem Src.ne {H : Hp} {a d : Addr} {n : Int} (s : Src H a d n) : a ≠ d := by
  obtain ⟨cur, mix, cnt, ds, h1, h2, _⟩ := s
  intro e
  rw [e] at h1
  rw [h1] at h2
  cases ds with
  | nil => cases h2
  | cons x r =>
    have z := Option.some.inj h2
    injection z with z
    rw [List.map_cons] at z
    injection z with z1 z2
    cases z1
theorem Src.lst1 {H : Hp} {a d : Addr} {n : Int} (s : Src H a d n) : ∃ o, H a = some o := let ⟨_, _, _, _, h, _⟩ := s; ⟨_, h⟩
theorem Src.lst2 {H : Hp} {a d : Addr} {n : Int} (s : Src H a d n) : ∃ o, H d = some o := let ⟨_, _, _, _, _, h, _⟩ := s; ⟨_, h⟩
theorem Src.same {H H' : Hp} {a d : Addr} {n : Int} (s : Src H a d n) (e : Same H H') : Src H' a d n := by
  obtain ⟨cur, mix, cnt, ds, h1, h2, h3⟩ := s
  exact ⟨cur, mix, cnt, ds, e _ _ h1, e _ _ h2, h3⟩
theorem Src.keep {H : Hp} {a d p : Addr} {o : HO} {n : Int} (s : Src H a d n) (ha : p ≠ a) (hd : p ≠ d) : Src (upd H p o) a d n := by
  obtain ⟨cur, mix, cnt, ds, h1, h2, h3⟩ := s
  exact ⟨cur, mix, cnt, ds, by rw [upd_ne ha.symm]; exact h1, by rw [upd_ne hd.symm]; exact h2, h3⟩
theorem Src.mono {H : Hp} {a d : Addr} {n m : Int} (s : Src H a d n) (h : n ≤ m) : Src H a d m := by
  obtain ⟨cur, mix, cnt, ds, h1, h2, h3, h4, h5, h6⟩ := s
  exact ⟨cur, mix, cnt, ds, h1, h2, h3, h4, h5, Int.le_trans h6 h⟩
theorem Src.new1 {H : Hp} {a d p : Addr} {n : Int} (s : Src H a d n) (h : H p = none) : p ≠ a ∧ p ≠ d := by
  obtain ⟨o, h1⟩ := s.lst1
  obtain ⟨u, h2⟩ := s.lst2
  exact ⟨(ne_of_none h1 h).symm, (ne_of_none h2 h).symm⟩

/-- what a call that draws at most c times does to the heap: all but the source stays, the source is a source -/
structure Adv (a d : Addr) (c : Int) (H H' : Hp) : Prop where
  same : Same (hid a d H) (hid a d H')
  src : ∀ n, Src H a d n → Src H' a d (n + c)
theorem Adv.refl {a d : Addr} {H : Hp} : Adv a d 0 H H := ⟨Same.refl _, fun n s => s.mono (by omega)⟩
theorem Adv.trans {a d : Addr} {c c' e : Int} {H H1 H2 : Hp} (x : Adv a d c H H1) (y : Adv a d c' H1 H2) (h : c + c' ≤ e) : Adv a d e H H2 :=
  ⟨x.same.trans y.same, fun n s => (y.src _ (x.src _ s)).mono (by omega)⟩
theorem Adv.mono {a d : Addr} {c e : Int} {H H1 : Hp} (x : Adv a d c H H1) (h : c ≤ e) : Adv a d e H H1 := ⟨x.same, fun n s => (x.src _ s).mono (by omega)⟩
theorem Adv.of {a d : Addr} {H H' : Hp} (e : Same H H') : Adv a d 0 H H' := ⟨hid_same e, fun n s => (s.same e).mono (by omega)⟩
/-- .. where a new object of the way has changed -/
theorem Adv.mut {a d : Addr} {c : Int} {H H' : Hp} {p : Addr} {o : HO} {n : Int} (x : Adv a d c H H') (s : Src H a d n) (h : H p = none) : Adv a d c H (upd H' p o) := by
  obtain ⟨h1, h2⟩ := s.new1 h
  refine ⟨?_, fun m t => (x.src m t).keep h1 h2⟩
  rw [hid_oth h1 h2]
  exact same_keep x.same (hid_none h)
/-- free behind is free ahead -/
theorem Adv.free {a d p : Addr} {c n : Int} {H H' : Hp} (x : Adv a d c H H') (s : Src H a d n) (h : H' p = none) : H p = none := by
  have s' := x.src n s
  obtain ⟨h1, h2⟩ := s'.new1 h
  cases q : H p with
  | none => rfl
  | some o =>
    have e := (hid_get (x.same p o (hid_at q h1 h2))).1
    rw [h] at e
    cases e
theorem Adv.made {a d : Addr} {c cur mix cnt cur' cnt' : Int} {H H' : Hp} {ds' : List Int} (e : Same (hid a d H) (hid a d H')) (h : H a = some (.lst [.ref d, .int cur, .int mix, .int cnt]))
    (h' : H' a = some (.lst [.ref d, .int cur', .int mix, .int cnt'])) (hd' : H' d = some (.lst (ds'.map V.int))) (h0 : cnt ≤ cnt') (h1 : cnt' ≤ cnt + c) : Adv a d c H H' := by
  refine ⟨e, fun n s => ?_⟩
  obtain ⟨cu, mi, cn, ds, a1, a2, a3, a4, a5, a6⟩ := s
  rw [h] at a1
  cases a1
  exact ⟨cur', mix, cnt', ds', h', hd', a3, a4, by omega, by omega⟩
theorem small64 {x b : Int} (h0 : 0 ≤ x) (h1 : x < b) (hb : b ≤ 18446744073709551616) : x.natAbs < 2 ^ 64 := by omega

/-! ## ints in lists -/
theorem map_get {ns : List Int} {i : Nat} {x : Int} (h : ns[i]? = some x) : (ns.map V.int)[i]? = some (.int x) := by
  rw [List.getElem?_map, h]
  rfl
theorem at_int {ns : List Int} {i : Int} (h0 : 0 ≤ i) (h : i < ns.length) : ∃ x, x ∈ ns ∧ ns[i.toNat]? = some x ∧ atI (ns.map V.int) i = some (.int x) := by
  obtain ⟨j, rfl⟩ : ∃ j : Nat, i = (j : Int) := ⟨i.toNat, by omega⟩
  have hi : j < ns.length := by omega
  exact ⟨ns[j], List.getElem_mem hi, List.getElem?_eq_getElem hi, atI_nat (map_get (List.getElem?_eq_getElem hi))⟩
theorem at_val {xs : List V} {i : Int} (h0 : 0 ≤ i) (h : i < xs.length) : ∃ x, x ∈ xs ∧ xs[i.toNat]? = some x ∧ atI xs i = some x := by
  obtain ⟨j, rfl⟩ : ∃ j : Nat, i = (j : Int) := ⟨i.toNat, by omega⟩
  have hi : j < xs.length := by omega
  exact ⟨xs[j], List.getElem_mem hi, List.getElem?_eq_getElem hi, atI_nat (List.getElem?_eq_getElem hi)⟩
theorem size_le {n : Nat} (h : n ≤ 100000) : n ≤ sizeLine := Nat.le_trans h (by decide)
theorem size_lt {n : Nat} (h : n < 100000) : n < sizeLine := Nat.lt_of_lt_of_le h (by decide)
mutual
theorem eqv_refl' : ∀ d : PyData, d.canLay0 = true → PyData.eqv d d = true
  | .none, _ => rfl
  | .bool b, _ => by simp [PyData.eqv]
  | .int i, _ => by simp [PyData.eqv]
  | .str x, _ => by simp [PyData.eqv]
  | .list xs, h => by
    simp only [PyData.eqv]
    exact eqvAll_refl' xs (by simpa [PyData.canLay0] using h)
  | .tuple xs, h => by
    simp only [PyData.eqv]
    exact eqvAll_refl' xs (by simpa [PyData.canLay0] using h)
  | .dict _, h => by simp [PyData.canLay0] at h
theorem eqvAll_refl' : ∀ ds : List PyData, PyData.canLayAll0 ds = true → PyData.eqvAll ds ds = true
  | [], _ => by simp [PyData.eqvAll]
  | d :: ds, h => by
    have h' : d.canLay0 = true ∧ PyData.canLayAll0 ds = true := by simpa [PyData.canLayAll0] using h
    simp only [PyData.eqvAll, Bool.and_eq_true]
    exact ⟨eqv_refl' d h'.1, eqvAll_refl' ds h'.2⟩
end
/-- a list of ints as data -/
def dInts (ns : List Int) : PyData := .list (ns.map .int)
theorem eqvAll_ints : ∀ ns ms : List Int, PyData.eqvAll (ns.map .int) (ms.map .int) = decide (ns = ms)
  | [], [] => by simp [PyData.eqvAll]
  | [], _ :: _ => by simp [PyData.eqvAll]
  | _ :: _, [] => by simp [PyData.eqvAll]
  | n :: ns, m :: ms => by
    have ih := eqvAll_ints ns ms
    simp only [List.map_cons, PyData.eqvAll, PyData.eqv, ih]
    by_cases h1 : n = m <;> by_cases h2 : ns = ms <;> simp [h1, h2]
theorem eqv_ints (ns ms : List Int) : PyData.eqv (dInts ns) (dInts ms) = decide (ns = ms) := by
  unfold dInts
  simp only [PyData.eqv]
  exact eqvAll_ints ns ms
theorem canLay_ints : ∀ ns : List Int, PyData.canLayAll0 (ns.map .int) = true
  | [] => by simp [PyData.canLayAll0]
  | n :: ns => by simp [PyData.canLayAll0, PyData.canLay0, canLay_ints ns]
theorem depth_ints : ∀ ns : List Int, PyData.depthAll (ns.map .int) ≤ 1
  | [] => by simp [PyData.depthAll]
  | n :: ns => by
    have := depth_ints ns
    simp only [List.map_cons, PyData.depthAll, PyData.depth]
    omega
theorem shaped_ints (ns : List Int) : SeqAt.shaped (dInts ns) = true := by
  have h := depth_ints ns
  unfold SeqAt.shaped
  rw [Bool.and_eq_true]
  refine ⟨?_, decide_eq_true ?_⟩
  · unfold dInts
    simp only [PyData.canLay0, canLay_ints]
  · unfold dInts
    simp only [PyData.depth]
    omega
theorem dp_all {K : PySem.W.Frag} {H : Hp} : ∀ ns : List Int, DpAll K H (ns.map V.int) (ns.map .int)
  | [] => .nil
  | n :: ns => .cons (.int n) (dp_all ns)
theorem dp_ints {K : PySem.W.Frag} {H : Hp} {p : Addr} {ns : List Int} (h : SqL K H p (ns.map V.int)) : Dp K H (.ref p) (dInts ns) := .lst h (dp_all ns)
theorem dp_nil {K : PySem.W.Frag} {H : Hp} {p : Addr} (h : SqL K H p []) : Dp K H (.ref p) (dInts []) := .lst h .nil

/-! ## loops -/
/-- for i, x in enumerate(xs), xs left as it is -/
theorem for_enum {K : PySem.W.Frag} {a : Addr} {xs : List V} {g : TG} {tb : TS} {D : Ends} {σ : L2.St} {H : Hp} (Pv : Nat → L2.St → Hp → Prop) (h0 : Pv 0 σ H)
    (hl : ∀ i σ H, i ≤ xs.length → Pv i σ H → SqL K H a xs)
    (hs : ∀ i x σ H T, xs[i]? = some x → Pv i σ H → H T = none → g (.ref T) σ (upd H T (.tup [.int (i : Nat), x])) fun σ2 H2 => tb { D with nx := Pv (i + 1), ct := Pv (i + 1), bk := D.nx } σ2 H2)
    (hd : ∀ σ H, Pv xs.length σ H → D.nx σ H) :
    ∃ W : Nat → Nat → L2.St → Hp → Prop, (∃ m, W 0 m σ H) ∧ ∀ i m σ H, W i m σ H →
      ((Ite K a).stop i H ∧ D.nx σ H) ∨ ((Ite K a).go i H ∧ ∃ N : L2.St → Hp → Prop, (∀ σ' H', N σ' H' → ∃ m', m' < m ∧ W (i + 1) m' σ' H') ∧
        ∀ x H', (Ite K a).yld i H x H' → g x σ H' fun σ2 H2 => tb { D with nx := N, ct := N, bk := D.nx } σ2 H2) := by
  refine ⟨fun i m σ' H' => m + i = xs.length ∧ Pv i σ' H', ⟨xs.length, rfl, h0⟩, fun i m σ' H' hW => ?_⟩
  obtain ⟨em, hp⟩ := hW
  have hq := hl i σ' H' (by omega) hp
  by_cases hi : i < xs.length
  · refine .inr ⟨⟨xs, xs[i], hq, List.getElem?_eq_getElem hi⟩, Pv (i + 1), fun σ2 H2 h2 => ⟨m - 1, by omega, by omega, h2⟩, fun x H2 hy => ?_⟩
    obtain ⟨T, y, rfl, nT, rfl, hx⟩ := hy
    exact hs i y σ' H' T (hx xs hq) hp nT
  · have e : i = xs.length := by omega
    subst e
    exact .inl ⟨⟨xs, hq, Nat.le_refl _⟩, hd σ' H' hp⟩

/-! ## kinds -/
section
variable {K : PySem.W.Frag} {H : Hp} {p : Addr} {xs : List V} {Q : VK}
theorem isi_tt (h : H p = some (.tup xs)) (q : Q (.bl true) H) : rIsi K [.ref p, .ty "tuple"] H Q := ⟨_, _, _, _, _, rfl, .ty "tuple", .base (.tup h), kit_ty (by decide +kernel), q⟩
theorem isi_lt (h : H p = some (.lst xs)) (q : Q (.bl false) H) : rIsi K [.ref p, .ty "tuple"] H Q := ⟨_, _, _, _, _, rfl, .ty "tuple", .base (.lst h), kit_ty (by decide +kernel), q⟩
theorem isi_ll (h : H p = some (.lst xs)) (q : Q (.bl true) H) : rIsi K [.ref p, .ty "list"] H Q := ⟨_, _, _, _, _, rfl, .ty "list", .base (.lst h), kit_ty (by decide +kernel), q⟩
theorem isi_tl (h : H p = some (.tup xs)) (q : Q (.bl false) H) : rIsi K [.ref p, .ty "list"] H Q := ⟨_, _, _, _, _, rfl, .ty "list", .base (.tup h), kit_ty (by decide +kernel), q⟩
end

theorem units1 {n c : Nat} (h : n + 64 < c) : n + 1 < c := by omega
theorem yes_thn {σ : L2.St} {H : Hp} {A B : Hp → Prop} (h : A H) : tYes σ H (fun b H3 => if b = true then A H3 else B H3) := by
  change (if true = true then A H else B H)
  exact (if_pos rfl).mpr h
/-! ## policies and layers -/
/-- the inner one, then each wait of the outer one and the inner one again -/
def nestL {α : Type} (xs ys : List α) : List α := xs ++ ys.flatMap fun y => y :: xs
theorem nestL_map {α β : Type} (f : α → β) (xs ys : List α) : (nestL xs ys).map f = nestL (xs.map f) (ys.map f) := by
  unfold nestL
  rw [List.map_append, List.map_flatMap, List.flatMap_map]
  congr 1
theorem flatMap_len {α β : Type} (f : α → List β) (n : Nat) (h : ∀ x, (f x).length = n) : ∀ l : List α, (l.flatMap f).length = l.length * n
  | [] => by simp
  | x :: l => by
    rw [List.flatMap_cons, List.length_append, h x, flatMap_len f n h l, List.length_cons, Nat.succ_mul, Nat.add_comm]
theorem nestL_len {α : Type} (xs ys : List α) : (nestL xs ys).length + 1 = (xs.length + 1) * (ys.length + 1) := by
  unfold nestL
  rw [List.length_append, flatMap_len _ (xs.length + 1) (fun _ => rfl)]
  generalize xs.length = a
  generalize ys.length = b
  have e1 : (a + 1) * (b + 1) = a * b + a + (b + 1) := by rw [Nat.add_mul, Nat.mul_add, Nat.mul_one, Nat.one_mul]
  have e2 : b * (a + 1) = a * b + b := by rw [Nat.mul_add, Nat.mul_one, Nat.mul_comm]
  omega
theorem nestL_nil {α : Type} (xs : List α) : nestL xs [] = xs := by
  unfold nestL
  simp
theorem nil_nestL {α : Type} (ys : List α) : nestL [] ys = ys := by
  unfold nestL
  simp
theorem nestL_mem {α : Type} {xs ys : List α} {z : α} (h : z ∈ nestL xs ys) : z ∈ xs ∨ z ∈ ys := by
  unfold nestL at h
  rw [List.mem_append, List.mem_flatMap] at h
  rcases h with h | ⟨y, hy, h⟩
  · exact .inl h
  · rcases List.mem_cons.mp h with e | h
    · exact .inr (e ▸ hy)
    · exact .inl h
inductive Lay where
  | pol (ns : List Int)
  | con (w n : Int)
def Lay.cnt : Lay → Int
  | .pol ns => (ns.length : Int) + 1
  | .con _ n => n
def Lay.waits : Lay → List Int
  | .pol ns => ns
  | .con w n => List.replicate (n - 1).toNat w
def Lay.ok : Lay → Bool
  | .pol ns => ns.all fun x => decide (0 ≤ x)
  | .con w n => decide (0 ≤ w) && decide (1 ≤ n)
theorem Lay.ok_con (w n : Int) : (Lay.con w n).ok = (decide (0 ≤ w) && decide (1 ≤ n)) := rfl
theorem Lay.ok_pol (ns : List Int) : (Lay.pol ns).ok = ns.all fun x => decide (0 ≤ x) := rfl
def LayAt (H : Hp) (v : V) : Lay → Prop
  | .pol ns => ∃ p, v = .ref p ∧ H p = some (.lst (ns.map V.int))
  | .con w n => ∃ p, v = .ref p ∧ H p = some (.tup [.int w, .int n])
theorem LayAt.same {H H' : Hp} {v : V} {L : Lay} (h : LayAt H v L) (e : Same H H') : LayAt H' v L := by
  cases L with
  | pol ns => obtain ⟨p, h1, h2⟩ := h; exact ⟨p, h1, e _ _ h2⟩
  | con w n => obtain ⟨p, h1, h2⟩ := h; exact ⟨p, h1, e _ _ h2⟩
theorem LayAt.ref {H : Hp} {v : V} {L : Lay} (h : LayAt H v L) : ∃ p, v = .ref p := by
  cases L with
  | pol ns => obtain ⟨p, h1, _⟩ := h; exact ⟨p, h1⟩
  | con w n => obtain ⟨p, h1, _⟩ := h; exact ⟨p, h1⟩
def NestAt (H : Hp) (q : Addr) (Ls : List Lay) : Prop := ∃ vs, H q = some (.lst vs) ∧ vs.length = Ls.length ∧ ∀ (i : Nat) v L, vs[i]? = some v → Ls[i]? = some L → LayAt H v L
theorem NestAt.same {H H' : Hp} {q : Addr} {Ls : List Lay} (h : NestAt H q Ls) (e : Same H H') : NestAt H' q Ls := by
  obtain ⟨vs, h1, h2, h3⟩ := h
  exact ⟨vs, e _ _ h1, h2, fun i v L a b => (h3 i v L a b).same e⟩
theorem LayAt.con_pos {L : Lay} (h : L.ok = true) : 1 ≤ L.cnt := by
  cases L with
  | pol ns => show (1 : Int) ≤ (ns.length : Int) + 1; omega
  | con w n =>
    unfold Lay.ok at h
    rw [Bool.and_eq_true] at h
    exact of_decide_eq_true h.2
def attOf (Ls : List Lay) : Int := Ls.foldl (fun t L => t * L.cnt) 1
def flatL (Ls : List Lay) : List Int := Ls.foldl (fun acc L => if L.cnt > 1 then nestL acc L.waits else acc) []
theorem nest_of {H : Hp} {q : Addr} {vs : List V} {Ls : List Lay} (h : H q = some (.lst vs)) (p : Paired (LayAt H) vs Ls) : NestAt H q Ls := by
  refine ⟨vs, h, Paired.length p, ?_⟩
  clear h
  induction p with
  | nil =>
    intro i v L h
    cases h
  | cons r t ih =>
    intro i v L h1 h2
    cases i with
    | zero =>
      cases h1
      cases h2
      exact r
    | succ i => exact ih i v L h1 h2
theorem flatL_eq : ∀ (Ls : List Lay) (acc : List Int), (∀ L ∈ Ls, L.ok = true) → Ls.foldl (fun acc L => if L.cnt > 1 then nestL acc L.waits else acc) acc = Ls.foldl (fun acc L => nestL acc L.waits) acc
  | [], _, _ => rfl
  | L :: Ls, acc, h => by
    have h1 := LayAt.con_pos (h L List.mem_cons_self)
    have e : (if L.cnt > 1 then nestL acc L.waits else acc) = nestL acc L.waits := by
      split
      · rfl
      · have hw : L.waits = [] := by
          cases L with
          | pol ns =>
            have : (ns.length : Int) + 1 = (Lay.pol ns).cnt := rfl
            exact List.length_eq_zero_iff.mp (by show ns.length = 0; omega)
          | con w n =>
            have : n = (Lay.con w n).cnt := rfl
            show List.replicate (n - 1).toNat w = []
            rw [show (n - 1).toNat = 0 by omega]
            rfl
        rw [hw, nestL_nil]
    rw [List.foldl_cons, List.foldl_cons, e]
    exact flatL_eq Ls _ fun M hM => h M (List.mem_cons_of_mem _ hM)
theorem flatL_fold {Ls : List Lay} (h : ∀ L ∈ Ls, L.ok = true) : flatL Ls = Ls.foldl (fun acc L => nestL acc L.waits) [] := flatL_eq Ls [] h
theorem nestL_assoc {α : Type} (xs ys zs : List α) : nestL (nestL xs ys) zs = nestL xs (nestL ys zs) := by
  unfold nestL
  rw [List.flatMap_append, List.append_assoc]
  congr 1
  congr 1
  induction zs with
  | nil => rfl
  | cons z zs ih =>
    simp only [List.flatMap_cons, List.flatMap_append, List.cons_append, List.append_assoc] at ih ⊢
    rw [ih]
theorem pol_ok {ns : List Int} (h : ∀ x ∈ ns, 0 ≤ x ∧ x < 1000000000000) : (Lay.pol ns).ok = true := by
  rw [Lay.ok_pol, List.all_eq_true]
  exact fun x hx => decide_eq_true (h x hx).1
theorem ne_no {ns ms : List Int} {A B : Prop} (h : ns = ms) (b : B) : if (!PyData.eqv (dInts ns) (dInts ms)) = true then A else B := by
  rw [eqv_ints, decide_eq_true h]
  exact iteF b

/-! ## rules of the written part in a comprehension's block -/
section
variable {X : Cx} {K : PySem.W.Frag}
theorem ix_listK (h : X.K = K) : IxR X (rIxL K) := by subst h; exact ix_list
theorem ix_tupK (h : X.K = K) : IxR X (rIxT K) := by subst h; exact ix_tup
theorem sl_listK (h : X.K = K) : SlR X (rSlL K) := by subst h; exact sl_list
theorem op_eqDK (h : X.K = K) (hu : X.A.units + 64 < cLine) : OpR X (compareOp .Eq) (rEqD K) := by subst h; exact op_eqD hu
theorem op_neDK (h : X.K = K) (hu : X.A.units + 64 < cLine) : OpR X (compareOp .NotEq) (rNeD K) := by subst h; exact op_neD hu
theorem op_in_seqK (h : X.K = K) : OpR X (compareOp .In) (rIn K false) := by subst h; exact op_in_seq
theorem op_notIn_seqK (h : X.K = K) : OpR X (compareOp .NotIn) (rIn K true) := by subst h; exact op_notIn_seq
theorem call_isiK1 (h : X.K = K) : CallR X (.builtin "isinstance") (rIsi K) := by subst h; exact call_isi
def rLenK (K : PySem.W.Frag) : List V → Hp → VK → Prop := fun xs H Q => ∃ p ys, xs = [.ref p] ∧ (SqL K H p ys ∨ SqT K H p ys) ∧ Q (.int (ys.length : Int)) H
theorem call_len_seqK (h : X.K = K) : CallR X (.builtin "len") (rLenK K) := by subst h; exact call_len_seq
def rListK (K : PySem.W.Frag) : List V → Hp → VK → Prop := fun xs H Q => ∃ p ys, xs = [.ref p] ∧ (SqL K H p ys ∨ SqT K H p ys) ∧ ∀ l, H l = none → Q (.ref l) (upd H l (.lst ys))
theorem call_list_ofK (h : X.K = K) : CallR X (.type "list") (rListK K) := by subst h; exact call_list_of
end
theorem refs_ints {ps : List Addr} {ws : List Int} (h : ps.map V.ref = ws.map V.int) : ps = [] := by
  cases ps with
  | nil => rfl
  | cons p ps =>
    cases ws with
    | nil => cases h
    | cons w ws =>
      injection h with h1 h2
      cases h1
theorem three {α : Type} {l : List α} (h : l.length = 3) : ∃ x y z, l = [x, y, z] := by
  match l, h with
  | [x, y, z], _ => exact ⟨x, y, z, rfl⟩
theorem ixN_at {n : Nat} {i : Int} (h0 : 0 ≤ i) (h1 : i < n) : ixN n i = some i.toNat := by
  unfold ixN
  rw [if_pos h0, if_pos h1]
theorem eq_yes {ns ms : List Int} (h : ns = ms) : PyData.eqv (dInts ns) (dInts ms) = true := by rw [eqv_ints, decide_eq_true h]
theorem nestL_cons {α : Type} (ns : List α) (m : α) (ms : List α) : nestL ns (m :: ms) = ns ++ m :: nestL ns ms := by
  unfold nestL
  rw [List.flatMap_cons, List.cons_append]
theorem nestL_get {α : Type} (ns : List α) : ∀ (ms : List α) (j : Nat), j < (nestL ns ms).length → (nestL ns ms)[j]? = if (j + 1) % (ns.length + 1) = 0 then ms[(j + 1) / (ns.length + 1) - 1]? else ns[(j + 1) % (ns.length + 1) - 1]?
  | [], j, h => by
    rw [nestL_nil] at h ⊢
    rw [Nat.mod_eq_of_lt (by omega), if_neg (by omega)]
    rfl
  | m :: ms, j, h => by
    rw [nestL_cons] at h ⊢
    by_cases h1 : j < ns.length
    · rw [List.getElem?_append_left h1, Nat.mod_eq_of_lt (by omega), if_neg (by omega)]
      rfl
    · by_cases h2 : j = ns.length
      · subst h2
        rw [List.getElem?_append_right (Nat.le_refl _), Nat.sub_self, Nat.mod_self, if_pos rfl, Nat.div_self (by omega)]
        rfl
      · obtain ⟨t, rfl⟩ : ∃ t, j = ns.length + 1 + t := ⟨j - (ns.length + 1), by omega⟩
        rw [List.getElem?_append_right (by omega), show ns.length + 1 + t - ns.length = t + 1 by omega, List.getElem?_cons_succ]
        rw [List.length_append, List.length_cons] at h
        rw [nestL_get ns ms t (by omega), show ns.length + 1 + t + 1 = (t + 1) + (ns.length + 1) by omega, Nat.add_mod_right, Nat.add_div_right _ (by omega)]
        by_cases h3 : (t + 1) % (ns.length + 1) = 0
        · rw [if_pos h3, if_pos h3, Nat.succ_sub_one]
          have : 1 ≤ (t + 1) / (ns.length + 1) := by
            have := Nat.div_add_mod (t + 1) (ns.length + 1)
            rw [h3] at this
            rcases Nat.eq_zero_or_pos ((t + 1) / (ns.length + 1)) with z | z
            · rw [z] at this
              omega
            · exact z
          obtain ⟨u, hu⟩ : ∃ u, (t + 1) / (ns.length + 1) = u + 1 := ⟨(t + 1) / (ns.length + 1) - 1, by omega⟩
          rw [hu]
          rfl
        · rw [if_neg h3, if_neg h3]
theorem foldl_nestL : ∀ (Ls : List Lay) (xs acc : List Int), Ls.foldl (fun acc L => nestL acc L.waits) (nestL xs acc) = nestL xs (Ls.foldl (fun acc L => nestL acc L.waits) acc)
  | [], _, _ => rfl
  | L :: Ls, xs, acc => by
    rw [List.foldl_cons, List.foldl_cons, nestL_assoc]
    exact foldl_nestL Ls xs (nestL acc L.waits)
theorem flatL_cons {L : Lay} {Ls : List Lay} (h : ∀ M ∈ L :: Ls, M.ok = true) : flatL (L :: Ls) = nestL L.waits (flatL Ls) := by
  rw [flatL_fold h, flatL_fold fun M hM => h M (List.mem_cons_of_mem _ hM), List.foldl_cons, nil_nestL]
  have := foldl_nestL Ls L.waits []
  rw [nestL_nil] at this
  exact this
/-- a nesting whose layers' objects are newer than H0 and none of them is the nesting's own list -/
def NestV (H0 G : Hp) (p : Addr) (vs : List V) (Ls : List Lay) : Prop := G p = some (.lst vs) ∧ vs.length = Ls.length ∧ (∀ (i : Nat) v L, vs[i]? = some v → Ls[i]? = some L → LayAt G v L) ∧ ∀ x, V.ref x ∈ vs → x ≠ p ∧ H0 x = none
theorem NestV.nest {H0 G : Hp} {p : Addr} {vs : List V} {Ls : List Lay} (h : NestV H0 G p vs Ls) : NestAt G p Ls := ⟨vs, h.1, h.2.1, h.2.2.1⟩
theorem NestV.same {H0 G G' : Hp} {p : Addr} {vs : List V} {Ls : List Lay} (h : NestV H0 G p vs Ls) (e : Same G G') : NestV H0 G' p vs Ls :=
  ⟨e _ _ h.1, h.2.1, fun i v L a b => (h.2.2.1 i v L a b).same e, h.2.2.2⟩
theorem NestV.nil {H0 G : Hp} {p : Addr} (h : G p = some (.lst [])) : NestV H0 G p [] [] := ⟨h, rfl, (fun _ _ _ z => nomatch z), (fun _ z => nomatch z)⟩
theorem LayAt.keep {G : Hp} {p : Addr} {o : HO} {v : V} {L : Lay} (h : LayAt G v L) (ne : ∀ x, v = V.ref x → x ≠ p) : LayAt (upd G p o) v L := by
  cases L with
  | pol ns => obtain ⟨x, e, z⟩ := h; exact ⟨x, e, by rw [upd_ne (ne x e)]; exact z⟩
  | con w n => obtain ⟨x, e, z⟩ := h; exact ⟨x, e, by rw [upd_ne (ne x e)]; exact z⟩
theorem NestV.push {H0 G : Hp} {p x : Addr} {vs : List V} {Ls : List Lay} {L : Lay} (h : NestV H0 G p vs Ls) (hx : LayAt G (.ref x) L) (ne : x ≠ p) (fr : H0 x = none) :
    NestV H0 (upd G p (.lst (vs ++ [.ref x]))) p (vs ++ [.ref x]) (Ls ++ [L]) := by
  obtain ⟨h1, h2, h3, h4⟩ := h
  refine ⟨upd_same, by rw [List.length_append, List.length_append, h2]; rfl, fun i v M a b => ?_, fun y hy => ?_⟩
  · by_cases hi : i < vs.length
    · rw [List.getElem?_append_left hi] at a
      rw [List.getElem?_append_left (by omega)] at b
      exact (h3 i v M a b).keep fun y e => (h4 y (e ▸ List.mem_of_getElem? a)).1
    · rw [List.getElem?_append_right (by omega)] at a
      rw [List.getElem?_append_right (by omega), ← h2] at b
      generalize i - vs.length = k at *
      cases k with
      | zero =>
        cases a
        cases b
        exact hx.keep fun y e => by cases e; exact ne
      | succ k => cases a
  · rcases List.mem_append.mp hy with z | z
    · exact h4 y z
    · have := List.mem_singleton.mp z
      cases this
      exact ⟨ne, fr⟩
/-- one of its lists of ints is changed in place, its length kept -/
theorem NestV.turn {H0 G : Hp} {p x : Addr} {vs : List V} {Ls : List Lay} {ws us : List Int} (h : NestV H0 G p vs Ls) (hx : G x = some (.lst (ws.map V.int))) (ne : x ≠ p) (hl : us.length = ws.length) :
    ∃ Ms : List Lay, NestV H0 (upd G x (.lst (us.map V.int))) p vs Ms ∧ Ms.map Lay.cnt = Ls.map Lay.cnt ∧ ∀ M ∈ Ms, M ∈ Ls ∨ (M = .pol us ∧ Lay.pol ws ∈ Ls) := by
  obtain ⟨h1, h2, h3, h4⟩ := h
  suffices key : ∀ (vs : List V) (Ls : List Lay), vs.length = Ls.length → (∀ (i : Nat) v L, vs[i]? = some v → Ls[i]? = some L → LayAt G v L) →
      ∃ Ms : List Lay, vs.length = Ms.length ∧ (∀ (i : Nat) v L, vs[i]? = some v → Ms[i]? = some L → LayAt (upd G x (.lst (us.map V.int))) v L) ∧ Ms.map Lay.cnt = Ls.map Lay.cnt ∧ ∀ M ∈ Ms, M ∈ Ls ∨ (M = .pol us ∧ Lay.pol ws ∈ Ls) by
    obtain ⟨Ms, k1, k2, k3, k4⟩ := key vs Ls h2 h3
    exact ⟨Ms, ⟨by rw [upd_ne ne.symm]; exact h1, k1, k2, h4⟩, k3, k4⟩
  clear h1 h2 h3 h4
  intro vs
  induction vs with
  | nil =>
    intro Ls hl _
    have : Ls = [] := List.length_eq_zero_iff.mp hl.symm
    subst this
    exact ⟨[], rfl, (fun _ _ _ z => nomatch z), rfl, (fun _ z => nomatch z)⟩
  | cons v vs ih =>
    intro Ls hlen hat
    cases Ls with
    | nil => cases hlen
    | cons L Ls =>
      obtain ⟨Ms, k1, k2, k3, k4⟩ := ih Ls (by simpa using hlen) fun i u M a b => hat (i + 1) u M a b
      have h0 := hat 0 v L rfl rfl
      by_cases e : v = V.ref x
      · subst e
        have hL : L = .pol ws := by
          cases L with
          | pol ns =>
            obtain ⟨y, e, z⟩ := h0
            cases e
            rw [hx] at z
            injection z with z
            injection z with z
            have : ∀ (as bs : List Int), as.map V.int = bs.map V.int → as = bs := by
              intro as
              induction as with
              | nil => intro bs q; cases bs with
                | nil => rfl
                | cons b bs => cases q
              | cons a as ih => intro bs q; cases bs with
                | nil => cases q
                | cons b bs =>
                  injection q with q1 q2
                  injection q1 with q1
                  rw [q1, ih bs q2]
            rw [this _ _ z]
          | con w n =>
            obtain ⟨y, e, z⟩ := h0
            cases e
            rw [hx] at z
            cases z
        refine ⟨.pol us :: Ms, by rw [List.length_cons, List.length_cons, k1], fun i u M a b => ?_, ?_, fun M hM => ?_⟩
        · cases i with
          | zero =>
            cases a
            cases b
            exact ⟨x, rfl, upd_same⟩
          | succ i => exact k2 i u M a b
        · rw [List.map_cons, List.map_cons, k3, hL]
          show ((us.length : Int) + 1) :: _ = ((ws.length : Int) + 1) :: _
          rw [hl]
        · rcases List.mem_cons.mp hM with z | z
          · exact .inr ⟨z, by rw [hL]; exact List.mem_cons_self⟩
          · rcases k4 M z with z | ⟨z1, z2⟩
            · exact .inl (List.mem_cons_of_mem _ z)
            · exact .inr ⟨z1, List.mem_cons_of_mem _ z2⟩
      · refine ⟨L :: Ms, by rw [List.length_cons, List.length_cons, k1], fun i u M a b => ?_, ?_, fun M hM => ?_⟩
        · cases i with
          | zero =>
            cases a
            cases b
            exact h0.keep fun y q z => e (by rw [q, z])
          | succ i => exact k2 i u M a b
        · rw [List.map_cons, List.map_cons, k3]
        · rcases List.mem_cons.mp hM with z | z
          · exact .inl (z ▸ List.mem_cons_self)
          · rcases k4 M z with z | ⟨z1, z2⟩
            · exact .inl (List.mem_cons_of_mem _ z)
            · exact .inr ⟨z1, List.mem_cons_of_mem _ z2⟩
theorem attOf_cnt : ∀ (Ls : List Lay) (t : Int), Ls.foldl (fun t L => t * L.cnt) t = (Ls.map Lay.cnt).foldl (fun t c => t * c) t
  | [], _ => rfl
  | L :: Ls, t => by
    rw [List.foldl_cons, List.map_cons, List.foldl_cons]
    exact attOf_cnt Ls _
theorem attOf_same {Ls Ms : List Lay} (h : Ms.map Lay.cnt = Ls.map Lay.cnt) : attOf Ms = attOf Ls := by
  unfold attOf
  rw [attOf_cnt, attOf_cnt, h]
/-- a layer that a law draws -/
def Lay.nice (L : Lay) : Prop := L.ok = true ∧ match L with
  | .pol ns => ns.length ≤ 60 ∧ ∀ x ∈ ns, 0 ≤ x ∧ x < 1000000000000
  | .con w n => w < 1000000000000 ∧ n < 1000000000000000000000
theorem Lay.nice_pol {ns : List Int} (h : ns.length ≤ 60) (hb : ∀ x ∈ ns, 0 ≤ x ∧ x < 1000000000000) : (Lay.pol ns).nice := ⟨pol_ok hb, h, hb⟩
theorem Lay.nice_con {w n : Int} (h0 : 0 ≤ w) (h1 : w < 1000000000000) (h2 : 1 ≤ n) (h3 : n < 1000000000000000000000) : (Lay.con w n).nice :=
  ⟨by rw [Lay.ok_con, decide_eq_true h0, decide_eq_true h2]; rfl, h1, h3⟩
theorem attOf_snoc (Ls : List Lay) (L : Lay) : attOf (Ls ++ [L]) = attOf Ls * L.cnt := by
  unfold attOf
  rw [List.foldl_append]
  rfl
theorem attOf_lt : ∀ n (Ls : List Lay), Ls.length = n → (∀ L ∈ Ls, L.ok = true ∧ L.cnt < 2 ^ 100) → 0 < attOf Ls ∧ (attOf Ls).natAbs < 2 ^ (100 * n + 1)
  | 0, Ls, e, _ => by
    have e' : Ls = [] := List.length_eq_zero_iff.mp e
    subst e'
    exact ⟨by decide, by decide⟩
  | n + 1, Ls, e, h => by
    have hne : Ls ≠ [] := fun z => by rw [z] at e; cases e
    obtain ⟨Ms, L, rfl⟩ : ∃ Ms L, Ls = Ms ++ [L] := ⟨_, _, (List.dropLast_concat_getLast hne).symm⟩
    rw [List.length_append] at e
    obtain ⟨i1, i2⟩ := attOf_lt n Ms (by simpa using e) fun M hM => h M (List.mem_append_left _ hM)
    obtain ⟨h1, h2⟩ := h L (List.mem_append_right _ List.mem_cons_self)
    have h3 := LayAt.con_pos h1
    rw [attOf_snoc]
    refine ⟨Int.mul_pos i1 (by omega), ?_⟩
    have z := wide_lt (i := attOf Ms) (j := L.cnt) (b := 100) i2 (by omega)
    rw [show 100 * (n + 1) + 1 = 100 * n + 1 + 100 by omega]
    exact z
theorem flatL_snoc (Ls : List Lay) (L : Lay) : flatL (Ls ++ [L]) = if L.cnt > 1 then nestL (flatL Ls) L.waits else flatL Ls := by
  unfold flatL
  rw [List.foldl_append]
  rfl
theorem waits_len {L : Lay} (h : L.ok = true) : (L.waits.length : Int) + 1 = L.cnt := by
  cases L with
  | pol ns => rfl
  | con w n =>
    have := LayAt.con_pos h
    have : 1 ≤ n := this
    show ((List.replicate (n - 1).toNat w).length : Int) + 1 = n
    rw [List.length_replicate]
    omega
theorem flatL_len : ∀ n (Ls : List Lay), Ls.length = n → (∀ L ∈ Ls, L.ok = true) → ((flatL Ls).length : Int) + 1 = attOf Ls
  | 0, Ls, e, _ => by
    have e' : Ls = [] := List.length_eq_zero_iff.mp e
    subst e'
    rfl
  | n + 1, Ls, e, h => by
    have hne : Ls ≠ [] := fun z => by rw [z] at e; cases e
    obtain ⟨Ms, L, rfl⟩ : ∃ Ms L, Ls = Ms ++ [L] := ⟨_, _, (List.dropLast_concat_getLast hne).symm⟩
    rw [List.length_append] at e
    have ih := flatL_len n Ms (by simpa using e) fun M hM => h M (List.mem_append_left _ hM)
    have h1 := h L (List.mem_append_right _ List.mem_cons_self)
    have h3 := LayAt.con_pos h1
    have h4 := waits_len h1
    rw [attOf_snoc, flatL_snoc, ← ih]
    split
    · have e5 := nestL_len (flatL Ms) L.waits
      rw [← h4]
      exact_mod_cast e5
    · have : L.cnt = 1 := by omega
      rw [this, Int.mul_one]
theorem attOf_part : ∀ (Ms Ls : List Lay), (∀ L ∈ Ls, L.ok = true) → (∀ L ∈ Ms, L.ok = true) → 1 ≤ attOf Ms ∧ attOf Ms ≤ attOf (Ms ++ Ls)
  | Ms, [], _, h => by
    rw [List.append_nil]
    refine ⟨?_, Int.le_refl _⟩
    have := flatL_len _ Ms rfl h
    omega
  | Ms, L :: Ls, h0, h => by
    have h1 := attOf_part (Ms ++ [L]) Ls (fun M hM => h0 M (List.mem_cons_of_mem _ hM)) (fun M hM => by
      rcases List.mem_append.mp hM with z | z
      · exact h M z
      · rw [List.mem_singleton.mp z]
        exact h0 L List.mem_cons_self)
    rw [List.append_assoc] at h1
    have h2 := LayAt.con_pos (h0 L List.mem_cons_self)
    have h3 := flatL_len _ Ms rfl h
    rw [attOf_snoc] at h1
    have h4 : attOf Ms * 1 ≤ attOf Ms * L.cnt := Int.mul_le_mul_of_nonneg_left h2 (by omega)
    refine ⟨by omega, ?_⟩
    have h5 : attOf Ms * L.cnt ≤ attOf (Ms ++ ([L] ++ Ls)) := h1.2
    have h6 : Ms ++ L :: Ls = Ms ++ ([L] ++ Ls) := rfl
    rw [h6]
    omega
theorem cnt_le {Ls : List Lay} (h : ∀ L ∈ Ls, L.ok = true) {L : Lay} (hL : L ∈ Ls) : L.cnt ≤ attOf Ls := by
  obtain ⟨As, Bs, rfl⟩ := List.append_of_mem hL
  have h1 := attOf_part As [] (fun _ z => nomatch z) (fun M hM => h M (List.mem_append_left _ hM))
  have h2 := attOf_part (As ++ [L]) Bs (fun M hM => h M (List.mem_append_right _ (List.mem_cons_of_mem _ hM))) (fun M hM => by
    rcases List.mem_append.mp hM with z | z
    · exact h M (List.mem_append_left _ z)
    · rw [List.mem_singleton.mp z]
      exact h L hL)
  have h3 := LayAt.con_pos (h L hL)
  rw [attOf_snoc, List.append_assoc] at h2
  have h4 : 1 * L.cnt ≤ attOf As * L.cnt := Int.mul_le_mul_of_nonneg_right h1.1 (by omega)
  have h5 : attOf As * L.cnt ≤ attOf (As ++ ([L] ++ Bs)) := h2.2
  have h6 : As ++ L :: Bs = As ++ ([L] ++ Bs) := rfl
  rw [h6]
  omega
theorem attOf_pos {Ls : List Lay} (h : ∀ L ∈ Ls, L.ok = true) : 1 ≤ attOf Ls := (attOf_part Ls [] (fun _ z => nomatch z) h).1
theorem part_left {t c left most : Int} (ht : 1 ≤ t) (hc : 1 ≤ c) (hl : c ≤ left) (h : t * left ≤ most) : 1 ≤ left / c ∧ t * c * (left / c) ≤ most := by
  refine ⟨by rw [Int.le_ediv_iff_mul_le (by omega)]; omega, ?_⟩
  have h1 : c * (left / c) ≤ left := by
    have := Int.mul_ediv_add_emod left c
    have := Int.emod_nonneg left (show c ≠ 0 by omega)
    omega
  rw [Int.mul_assoc]
  exact Int.le_trans (Int.mul_le_mul_of_nonneg_left h1 (by omega)) h
theorem le_left {t left most : Int} (ht : 1 ≤ t) (hl : 1 ≤ left) (h : t * left ≤ most) : t ≤ most := by
  have : t * 1 ≤ t * left := Int.mul_le_mul_of_nonneg_left hl (by omega)
  omega
theorem rep_flat {α : Type} (x : α) : ∀ m : Nat, (List.replicate m [x]).flatten = List.replicate m x
  | 0 => rfl
  | m + 1 => by
    rw [List.replicate_succ, List.flatten_cons, rep_flat x m, List.replicate_succ]
    rfl
def Lay.dat : Lay → PyData
  | .pol ns => dInts ns
  | .con w n => .tuple [.int w, .int n]
theorem dp_lay {K : PySem.W.Frag} {G : Hp} {v : V} {L : Lay} (h : LayAt G v L) : Dp K G v L.dat := by
  cases L with
  | pol ns => obtain ⟨p, rfl, hp⟩ := h; exact dp_ints (sql hp)
  | con w n => obtain ⟨p, rfl, hp⟩ := h; exact .tup (sqt hp) (.cons (.int w) (.cons (.int n) .nil))
theorem dp_lays {K : PySem.W.Frag} {G : Hp} : ∀ (vs : List V) (Ls : List Lay), vs.length = Ls.length → (∀ (i : Nat) v L, vs[i]? = some v → Ls[i]? = some L → LayAt G v L) → DpAll K G vs (Ls.map Lay.dat)
  | [], [], _, _ => .nil
  | [], _ :: _, h, _ => by cases h
  | _ :: _, [], h, _ => by cases h
  | v :: vs, L :: Ls, h, hat => .cons (dp_lay (hat 0 v L rfl rfl)) (dp_lays vs Ls (by simpa using h) fun i u M a b => hat (i + 1) u M a b)
theorem dp_nest {K : PySem.W.Frag} {G : Hp} {p : Addr} {Ls : List Lay} (h : NestAt G p Ls) : Dp K G (.ref p) (.list (Ls.map Lay.dat)) := by
  obtain ⟨vs, h1, h2, h3⟩ := h
  exact .lst (sql h1) (dp_lays vs Ls h2 h3)
theorem cut_one (xs : List V) : cutV xs none (some 1) = xs.take 1 := by
  unfold cutV
  rw [HT.sIx_none, show HT.sIx xs.length xs.length (some 1) = min 1 xs.length from HT.sIx_nat xs.length _ 1]
  cases xs with
  | nil => rfl
  | cons x r =>
    rw [show min 1 (x :: r).length = 1 by rw [List.length_cons]; omega]
    rfl
theorem flatL_con {w n : Int} (h0 : 0 ≤ w) (h1 : 1 ≤ n) : flatL [.con w n] = List.replicate (n - 1).toNat w := by
  rw [flatL_fold fun L hL => by rw [List.mem_singleton.mp hL, Lay.ok_con, decide_eq_true h0, decide_eq_true h1]; rfl]
  show nestL [] (List.replicate (n - 1).toNat w) = _
  rw [nil_nestL]
theorem NestV.low {H0 G : Hp} {a d p : Addr} {us : List V} {Ls : List Lay} (hv : NestV H0 (hid a d G) p us Ls) : NestAt G p Ls := by
  obtain ⟨z1, z2, z3, _⟩ := hv
  refine ⟨us, (hid_get z1).1, z2, fun i v L x y => ?_⟩
  have := z3 i v L x y
  cases L with
  | pol ns => obtain ⟨p, e, z⟩ := this; exact ⟨p, e, (hid_get z).1⟩
  | con w n => obtain ⟨p, e, z⟩ := this; exact ⟨p, e, (hid_get z).1⟩
theorem nice_cnt {L : Lay} (h : L.nice) : L.cnt < 2 ^ 100 := by
  obtain ⟨h0, h1⟩ := h
  cases L with
  | pol ns =>
    obtain ⟨h1, _⟩ := h1
    show (ns.length : Int) + 1 < 2 ^ 100
    omega
  | con w n =>
    obtain ⟨_, h1⟩ := h1
    show n < 2 ^ 100
    omega
theorem cut_n (xs : List V) (n : Nat) : cutV xs none (some (n : Int)) = xs.take n := by
  unfold cutV
  rw [HT.sIx_none, show HT.sIx xs.length xs.length (some (n : Int)) = min n xs.length from HT.sIx_nat xs.length _ n]
  show (xs.drop 0).take (min n xs.length - 0) = _
  rw [List.drop_zero, Nat.sub_zero]
  by_cases h : n ≤ xs.length
  · rw [Nat.min_eq_left h]
  · rw [Nat.min_eq_right (by omega), List.take_length, List.take_of_length_le (by omega)]
theorem cut_to (xs : List V) (n : Nat) : cutV xs (some (n : Int)) none = xs.drop n := by
  unfold cutV
  rw [HT.sIx_none, show HT.sIx xs.length 0 (some (n : Int)) = min n xs.length from HT.sIx_nat xs.length _ n]
  by_cases h : n ≤ xs.length
  · rw [Nat.min_eq_left h]
    exact List.take_of_length_le (by rw [List.length_drop]; omega)
  · rw [Nat.min_eq_right (by omega), List.drop_eq_nil_of_le (Nat.le_refl _), List.drop_eq_nil_of_le (by omega)]
    exact List.take_nil
theorem ne_same {d : PyData} {A B : Prop} (h : d.canLay0 = true) (b : B) : if (!PyData.eqv d d) = true then A else B := by
  rw [eqv_refl' d h]
  exact iteF b
theorem ne_val {x y : V} {A B : Prop} (h : x = y) (b : B) : if (!decide (x = y)) = true then A else B := by
  rw [h, decide_eq_true rfl]
  exact iteF b
end Rn

set_option Elab.async false
set_option linter.all false
set_option maxRecDepth 100000
set_option maxHeartbeats 4000000
namespace Rn
open PySem PySem.Spec PyProof.Rows L2
/-! ## repr of data; a law entered where no list is being shown -/
section
variable {X : Cx} {K : PySem.W.Frag}
def rRepr (K : PySem.W.Frag) : List V → Hp → VK → Prop := fun xs H Q => ∃ (p : Addr) (d : PyData), xs = [.ref p] ∧ Dp K H (.ref p) d ∧ d.showable = true ∧ d.hasDict = false ∧ d.depth ≤ 50 ∧ d.shown.length ≤ sizeLine ∧ Q (.str d.shown) H
theorem call_repr {k : Nat} (hg : X.A.guards = some []) (hr : Room k X.A) : CallR X (.builtin "repr") (rRepr X.K) := by
  intro pins s σ H xs us Q I r h
  obtain ⟨p, d, rfl, hd, hs, hh, hdep, hz, q⟩ := h
  cases r with
  | cons r1 r2 =>
    cases r2
    cases r1
    obtain ⟨as, rd⟩ := Dp.reads I d _ _ hd rfl
    have hu := hr.units
    exact repr_of_reads' rd hs (PyData.noDict_hsm hh) hg (by omega) (fun _ _ e => e) (fun h' u tk hk => ⟨.str d.shown, H, I.kept (t' := tk) hk, ⟨u, rfl⟩, q⟩) hz
end
section
variable {P : Program} {w : World} {K : PySem.W.Frag} {mg : Str → Option Value} {base : Heap}
/-- a promise that is kept wherever nothing is being shown -/
def FnG (P : Program) (w : World) (K : PySem.W.Frag) (mg : Str → Option Value) (base : Heap) (k : Nat) (f : Addr) (fd : FuncData) (ps : List Str) (sp : Sp) : Prop :=
  ∀ (A : Around) (outer : List Env) (s : Shared) (H : Hp) (args : Args) (us : List Value) (vs : List V) (Q : VK) (E : XK), A.guards = some [] → Room k A → Env0 P w K mg base A outer s H →
    BindsTo s fd args (ps.zip us) → Vals vs us → vs.length = ps.length → sp vs H Q E → codeAny (model P w) A (.call (.ref f) args) (CR CX0 outer P w H s Q E) s
theorem okG {x qual : Str} {st : Stmt} {f : Addr} {fd : FuncData} {N ps : List Str} {k : Nat} {sp : Sp} (F : Fun K x qual st f fd) (S : FnScope N ps (defScope st))
    (hbody : ∀ (cdv : Value) (A : Around) (outer : List Env) (s : Shared) (H : Hp) (vs : List V) (Q : VK) (E : XK), A.guards = some [] → Room k (A.deeper (envOfC qual (defScope st) s.heap.objs.size f cdv)) → sp vs H Q E →
      ∃ t, PSs (cxOf CX0 P w K mg base N qual (defScope st) f cdv A outer s H E).nox (defBody st) t ∧ t { nx := fun _ H' => Q .non H', rt := Q } (start N vs) H) :
    FnG P w K mg base (k + 1) f fd ps sp := by
  obtain ⟨oc, od, kV, doc, pm, an, cdv, ct, osl, efd, look, code⟩ := F.ex
  subst efd
  intro A outer s H args us vs Q E guard room e0 bind rel hlen want
  have same : ∀ b o, base.get? b = some o → s.heap.get? b = some o := fun b o z => (e0.bs b o z).1
  refine Att.call_fn (e0.mod.kin.keeps same) (e0.mod.nolimit.keeps same) look code room.depth bind ?_ (fun s1 x1 => ?_) S.co S.gen S.kind
  · rw [List.all_eq_true]
    rintro ⟨n, v⟩ hm
    rcases S.par n (List.of_mem_zip hm).1 with z | z
    · simp [z]
    · simp [z]
  obtain ⟨t, ht, hq⟩ := hbody cdv A outer s H vs Q E guard (room.deeper _) want
  have start0 : Inv (cxOf CX0 P w K mg base N qual (defScope st) f cdv A outer s H E) [] (start N vs) H s1 := inv_start S room.hd e0 hlen rel x1
  refine wpAny_mono (ht.nox.run [] s1 _ H _ start0 hq) (fun flow s2 done => ?_) (fun _ _ z => z)
  cases flow with
  | brk => exact (by obtain ⟨_, _, _, z⟩ := done; exact False.elim z)
  | cont => exact (by obtain ⟨_, _, _, z⟩ := done; exact False.elim z)
  | next =>
    obtain ⟨_, H2, J, z⟩ := done
    exact ⟨.non, H2, J.os, J.bare, J.base, J.hok, rfl, z⟩
  | ret u =>
    obtain ⟨v, _, H2, J, rv, z⟩ := done
    exact ⟨v, H2, J.os, J.bare, J.base, J.hok, rv, z⟩
/-- the heap's view at a law's entry: the script is known to the object, unless it is one of the text's own -/
def seen (K : PySem.W.Frag) (a : Addr) (vs : List Value) (ns : List Int) : Hp := fun b =>
  if b = a ∧ K.lookup a = none then some (.frz { cls := .type "list", data := .seq vs.toArray } (.lst (ns.map V.int))) else none
theorem seen_some {a b : Addr} {vs : List Value} {ns : List Int} {o : HO} (h : seen K a vs ns b = some o) : b = a ∧ K.lookup a = none ∧ o = .frz { cls := .type "list", data := .seq vs.toArray } (.lst (ns.map V.int)) := by
  unfold seen at h
  by_cases z : b = a ∧ K.lookup a = none
  · rw [if_pos z] at h
    exact ⟨z.1, z.2, (Option.some.inj h).symm⟩
  · rw [if_neg z] at h
    cases h
theorem law_at {mb : Str → Option Value} {fa a : Addr} {s1 : Shared} {vs : List Value} {ns : List Int} (hK : K.In s1.heap) (hmg : s1.heap.Ns mainGlobals mg) (hmb : s1.heap.Ns builtinsNs mb)
    (hbo : ∀ x : Str, x ≠ "__name__" → mb x = bootBuiltins x) (lim : s1.heap.NoLimit) (gens : s1.gens = #[]) (here : s1.heap.get? a = some { cls := .type "list", data := .seq vs.toArray }) (nums : IntsAre vs ns) (few : ns.length ≤ 63)
    (run : ∀ (base : Heap) (H : Hp), K.In base → base.Ns mainGlobals mg → Env0 P w K mg base callerA [] s1 H → SqL K H a (ns.map V.int) → codeAny (model P w) callerA (.call (.ref fa) ⟨[.ref a], []⟩) (CR CX0 [] P w H s1 (fun v _ => v = .bl true) E0) s1) :
    codeAny (model P w) callerA (.call (.ref fa) ⟨[.ref a], []⟩) (fun r s' => r = .ok (.ret (.bool true)) ∧ OldK s1.heap s'.heap ∧ s'.os = s1.os ∧ AllBare s'.gens) s1 := by
  have rel := vals_ints nums
  have cnt := nums.length
  have notDict : ∀ {b : Addr} {m : Str → Option Value}, s1.heap.Ns b m → seen K a vs ns b = none := fun {b m} z => by
    obtain ⟨o, es, ep, e, d, _⟩ := z
    cases q : seen K a vs ns b with
    | none => rfl
    | some u =>
      obtain ⟨eb, _, _⟩ := seen_some q
      rw [eb, here] at e
      cases e
      cases d
  have shift : ∀ {b : Addr} {m : Str → Option Value}, s1.heap.Ns b m → (hidT s1.heap (seen K a vs ns)).Ns b m := fun z => by
    have n := notDict z
    obtain ⟨o, es, ep, e, r⟩ := z
    exact ⟨o, es, ep, hidT_get e n, r⟩
  have kin : K.In (hidT s1.heap (seen K a vs ns)) := fun b o e => hidT_get (hK b o e) (by
    cases q : seen K a vs ns b with
    | none => rfl
    | some u =>
      obtain ⟨eb, en, _⟩ := seen_some q
      rw [eb, en] at e
      cases e)
  have hok : HOk P w (seen K a vs ns) s1.heap := fun b o e => by
    obtain ⟨rfl, _, rfl⟩ := seen_some e
    exact ⟨here, size_le (by rw [List.length_map]; omega), vs, _, rel, here⟩
  have env : Env0 P w K mg (hidT s1.heap (seen K a vs ns)) callerA [] s1 (seen K a vs ns) :=
    ⟨rfl, ⟨kin, shift hmg, ⟨mb, shift hmb, hbo⟩, by obtain ⟨mc, z1, z2⟩ := lim; exact ⟨mc, shift z1, z2⟩⟩, fun b o e => of_hidT e, Nat.le_of_eq (hidT_size _ _), trivial, (fun b z => nomatch z), hok, .of_eq gens⟩
  have script : SqL K (seen K a vs ns) a (ns.map V.int) := by
    cases q : K.lookup a with
    | none => exact .inl (.inr ⟨_, if_pos ⟨rfl, q⟩⟩)
    | some o =>
      have e := hK a o q
      rw [here] at e
      cases e
      exact .inr ⟨_, vs.toArray, _, q, rfl, rfl, rfl, by rw [List.size_toArray, cnt]; exact size_le (by omega), by simpa using rel⟩
  refine codeAny_mono (run _ _ kin (shift hmg) env script) fun r s' z => ?_
  cases r with
  | error e => exact False.elim z
  | ok flow =>
    cases flow with
    | brk => exact False.elim z
    | cont => exact False.elim z
    | next => exact False.elim z
    | ret u =>
      obtain ⟨v, H', os, bare, un, hok', rv, (rfl : v = .bl true)⟩ := z
      cases (show u = Value.bool true from rv)
      refine ⟨rfl, OldK.of_keep fun b o e => ?_, os, bare⟩
      cases q : seen K a vs ns b with
      | none => exact un.keep b o e q (fun z => nomatch z) (fun z => nomatch z)
      | some y =>
        obtain ⟨_, _, rfl⟩ := seen_some q
        obtain ⟨e2, _⟩ := hok' b _ (un.frzs b _ _ q)
        obtain ⟨e1, _⟩ := hok b _ q
        rw [e] at e1
        cases e1
        exact e2
end
/-- the walk's end for a law that shows lists -/
theorem walk_G {l : PySem.W.OpenLaw} {k : Nat} {q : Program} {loose : List Str} {XP : (Str → Option Value) → Heap → Prop} {YP : World → Heap → Prop} {d : DefRec} {K : Params → PySem.W.Frag} {sp : PySem.W.Frag → Sp}
    (hn : l.most = some 63) (hdf : d.params.defaults = []) (hr : Room k callerA) (hY : ∀ (w : World) (h : Heap), YP w h → (K w.params).In h)
    (F : ∀ (w : World) (mg : Str → Option Value) (fa : Addr) (h : Heap), (K w.params).In h → h.Ns mainGlobals mg → mg d.name = some (.ref fa) →
      ∃ fd : FuncData, (∀ (s : Shared) (u : Value), BindsTo s fd ⟨[u], []⟩ [("script", u)]) ∧ ∀ base : Heap, (K w.params).In base → base.Ns mainGlobals mg → FnG l.prog w (K w.params) mg base k fa fd ["script"] (sp (K w.params)))
    (hsp : ∀ (K : PySem.W.Frag) (H : Hp) (a : Addr) (ns : List Int), ns.length ≤ 63 → SqL K H a (ns.map V.int) → sp K [.ref a] H (fun v _ => v = .bl true) E0) :
    PySem.W.WalkO q loose XP YP l.row.toRowW d [] (fun f vs => PySem.call f vs) := by
  refine Att.attach_call hn hdf fun w s0 s1 mg mb fa o pm cd doc a vs ns G Y _ _ _ hmg here nums few gens => ?_
  obtain ⟨fd, bind, run⟩ := F w mg fa _ (hY w _ Y) G.T.g hmg
  exact law_at (hY w _ Y) G.T.g G.T.b G.T.builtins G.T.nolimit gens here nums few fun base H kin ns1 env script =>
    run base kin ns1 callerA [] s1 H _ [.ref a] [.ref a] _ _ rfl hr env (bind s1 (.ref a)) (.cons rfl .nil) rfl (hsp _ H a ns few script)
end Rn
namespace Rn
open PySem PySem.Spec PyProof.Rows L2
/-! ## calls by keywords alone -/
def tCallKw (sp : Sp) (gV : List V → List V → List V) (E : XK) (tk : TA) : TE := fun σ H Q => tk σ H fun zs H1 => sp (gV [] zs) H1 Q E
section
variable {X : Cx} {CX : CXT} {k : Nat} {f : Addr} {fd : FuncData} {ps ks : List Str} {sp : Sp} {E : XK} {x : Str} {p pos : Pos} {kws : List Keyword} {tk : TA} {g : List Value → List Value → List Value} {gV : List V → List V → List V}
theorem pe_callKw (F : FnOk X.prog X.w X.K X.mg X.base CX k f fd ps sp) (room : Room k X.A) (hg : Gl X x) (here : X.mg x = some (.ref f)) (keep : PySem.W.keepIn X.K (.ref f) = true) (bind : KBinds X.K fd ps ks g gV) (out : Passes CX X E)
    (hkw : PK X kws tk) (named : (backToKw pos (keywordEach kws X.env)).all (·.1.isSome) = true := by rfl) (order : (backToKw pos (keywordEach kws X.env)).filterMap (·.1) = ks := by rfl)
    (nodebug : (x == ("__debug__" : Str)) = false := by decide) (plain : ((backTo pos (starEach [] X.env)).any (·.1) || (backToKw pos (keywordEach kws X.env)).any (·.1.isNone)) = false := by rfl) :
    PE X (.Call (.Name x p) [] kws pos) (tCallKw sp gV E tk) := by
  constructor
  intro pins s σ H Q I h
  refine wpAny_Call_Name_kw (ld_glob I hg here ?_ nodebug)
  refine PySem.W.callWith_KW0 (h₀ := X.base) I.ok.mod.kin keep named (thn (hkw.run pos pins s σ H _ I h) fun ws s2 z => ?_) plain
  obtain ⟨zs, H2, I2, rz, q2⟩ := z
  rw [order]
  exact ⟨I2.kIn, run_fnk (us := []) (vs := []) F room bind out I2 .nil rz q2⟩
end
def kw1 {α : Type} : List α → List α → List α
  | [], [a] => [a]
  | _, _ => []
def kw2r {α : Type} : List α → List α → List α
  | [], [a, b] => [b, a]
  | _, _ => []
section
variable {K : PySem.W.Frag} {fd : FuncData} {p q : Str}
theorem kb1 (h : ∀ (s : Shared) (a : Value), BindsTo s fd ⟨[], [(p, a)]⟩ [(p, a)]) : KBinds K fd [p] [p] kw1 kw1 := by
  refine ⟨fun s us ws _ hl => ?_, fun {vs us zs ws} r1 r2 => ?_⟩
  · match us, ws, hl with
    | [], [a], _ => exact h s a
  · cases r1 with
    | cons _ _ => exact .nil
    | nil =>
      cases r2 with
      | nil => exact .nil
      | cons a r =>
        cases r with
        | nil => exact .cons a .nil
        | cons _ _ => exact .nil
theorem kb2r (h : ∀ (s : Shared) (a b : Value), BindsTo s fd ⟨[], [(q, a), (p, b)]⟩ [(p, b), (q, a)]) : KBinds K fd [p, q] [q, p] kw2r kw2r := by
  refine ⟨fun s us ws _ hl => ?_, fun {vs us zs ws} r1 r2 => ?_⟩
  · match us, ws, hl with
    | [], [a, b], _ => exact h s a b
  · cases r1 with
    | cons _ _ => exact .nil
    | nil =>
      cases r2 with
      | nil => exact .nil
      | cons a r =>
        cases r with
        | nil => exact .nil
        | cons b r =>
          cases r with
          | nil => exact .cons b (.cons a .nil)
          | cons _ _ => exact .nil
end
/-! ## data that can be shown -/
structure Shw (d : PyData) (W D : Nat) : Prop where
  show1 : d.showable = true
  plain : d.hasDict = false
  short : d.leavesShort 25 = true
  heavy : d.weight ≤ W
  deep : d.depth ≤ D
theorem Shw.fits {d : PyData} {W D : Nat} (s : Shw d W D) (h : W ≤ 500000) : d.shown.length ≤ sizeLine := by
  have h1 := PyData.shown_le 25 (by decide) d s.short
  have h2 := s.heavy
  have h3 : (25 + 2) * d.weight ≤ 27 * 500000 := Nat.mul_le_mul (by decide) (by omega)
  rw [sizeLine_eq]
  omega
theorem log_lt {i : Int} (h : i.natAbs < 10 ^ 24) : i.natAbs.log2 < 80 := PySem.Flt.log2_lt_of (k := 80) (by decide) (Nat.lt_trans h (by decide))
theorem Shw.int {i : Int} (h : i.natAbs < 10 ^ 24) : Shw (.int i) 80 1 := by
  have h1 := log_lt h
  refine ⟨?_, rfl, ?_, ?_, ?_⟩
  · simp only [PyData.showable, decide_eq_true_eq]
    omega
  · simp only [PyData.leavesShort, decide_eq_true_eq]
    have e := int_text_length_le10 (k := 24) (by decide) h
    show (Str.ofString (toString i)).length ≤ 25
    rw [PySem.ofString_length]
    exact e
  · simp only [PyData.weight]
    split
    · omega
    · omega
  · simp only [PyData.depth]
    omega
theorem Shw.all {W D : Nat} : ∀ ds : List PyData, (∀ d ∈ ds, Shw d W D) → PyData.showableAll ds = true ∧ PyData.hasDictAll ds = false ∧ PyData.leavesShortAll 25 ds = true ∧ PyData.weightAll ds ≤ ds.length * (W + 1) ∧ PyData.depthAll ds ≤ D
  | [], _ => ⟨rfl, rfl, rfl, Nat.zero_le _, Nat.zero_le _⟩
  | d :: ds, h => by
    obtain ⟨a1, a2, a3, a4, a5⟩ := Shw.all ds fun e he => h e (List.mem_cons_of_mem _ he)
    obtain ⟨b1, b2, b3, b4, b5⟩ := h d List.mem_cons_self
    refine ⟨?_, ?_, ?_, ?_, ?_⟩
    · simp only [PyData.showableAll, b1, a1, Bool.and_self]
    · simp only [PyData.hasDictAll, b2, a2, Bool.or_self]
    · simp only [PyData.leavesShortAll, b3, a3, Bool.and_self]
    · simp only [PyData.weightAll, List.length_cons, Nat.succ_mul]
      omega
    · simp only [PyData.depthAll]
      omega
theorem Shw.list {W D : Nat} {ds : List PyData} (h : ∀ d ∈ ds, Shw d W D) : Shw (.list ds) (ds.length * (W + 1)) (D + 1) := by
  obtain ⟨a1, a2, a3, a4, a5⟩ := Shw.all ds h
  exact ⟨by simpa only [PyData.showable] using a1, by simpa only [PyData.hasDict] using a2, by simpa only [PyData.leavesShort] using a3, by simpa only [PyData.weight] using a4, by simp only [PyData.depth]; omega⟩
theorem Shw.tuple {W D : Nat} {ds : List PyData} (h : ∀ d ∈ ds, Shw d W D) : Shw (.tuple ds) (ds.length * (W + 1)) (D + 1) := by
  obtain ⟨a1, a2, a3, a4, a5⟩ := Shw.all ds h
  exact ⟨by simpa only [PyData.showable] using a1, by simpa only [PyData.hasDict] using a2, by simpa only [PyData.leavesShort] using a3, by simpa only [PyData.weight] using a4, by simp only [PyData.depth]; omega⟩
theorem Shw.mono {d : PyData} {W W' D D' : Nat} (s : Shw d W D) (h : W ≤ W') (h' : D ≤ D') : Shw d W' D' := ⟨s.1, s.2, s.3, Nat.le_trans s.4 h, Nat.le_trans s.5 h'⟩
theorem Shw.nums {ns : List Int} (h : ∀ x ∈ ns, x.natAbs < 10 ^ 24) : Shw (dInts ns) (ns.length * 81) 2 := by
  have := Shw.list (ds := ns.map .int) (W := 80) (D := 1) fun d hd => by
    obtain ⟨x, hx, rfl⟩ := List.mem_map.mp hd
    exact Shw.int (h x hx)
  rw [List.length_map] at this
  exact this
theorem Shw.two {d e : PyData} {W D : Nat} (h1 : Shw d W D) (h2 : Shw e W D) : Shw (.list [d, e]) (2 * (W + 1)) (D + 1) :=
  Shw.list (ds := [d, e]) fun x hx => by
    simp only [List.mem_cons, List.not_mem_nil, or_false] at hx
    rcases hx with rfl | rfl
    · exact h1
    · exact h2
theorem ne_str {x y : Str} {A B : Prop} (h : x = y) (b : B) : if (!decide (V.str x = V.str y)) = true then A else B := by
  rw [h, decide_eq_true rfl]
  exact iteF b
theorem Shw.lay {L : Lay} (h : L.nice) : Shw L.dat 4860 2 := by
  obtain ⟨h0, h1⟩ := h
  cases L with
  | pol ns =>
    obtain ⟨h1, h2⟩ := h1
    exact (Shw.nums fun x hx => by have := h2 x hx; omega).mono (by omega) (Nat.le_refl _)
  | con w n =>
    obtain ⟨h1, h2⟩ := h1
    have h3 := LayAt.con_pos h0
    have h3 : 1 ≤ n := h3
    rw [Lay.ok_con, Bool.and_eq_true] at h0
    have h4 := of_decide_eq_true h0.1
    refine (Shw.tuple (ds := [.int w, .int n]) (W := 80) (D := 1) fun d hd => ?_).mono (by show 2 * 81 ≤ 4860; decide) (Nat.le_refl _)
    simp only [List.mem_cons, List.not_mem_nil, or_false] at hd
    rcases hd with rfl | rfl
    · exact Shw.int (by omega)
    · exact Shw.int (by omega)
theorem Shw.nest {Ls : List Lay} {m : Nat} (h : ∀ L ∈ Ls, L.nice) (hl : Ls.length ≤ m) : Shw (.list (Ls.map Lay.dat)) (m * 4861) 3 := by
  refine (Shw.list (ds := Ls.map Lay.dat) (W := 4860) (D := 2) fun d hd => ?_).mono (by rw [List.length_map]; exact Nat.mul_le_mul_right _ hl) (Nat.le_refl _)
  obtain ⟨L, hL, rfl⟩ := List.mem_map.mp hd
  exact Shw.lay (h L hL)
end Rn

set_option Elab.async false
set_option linter.all false
set_option maxRecDepth 100000
set_option maxHeartbeats 4000000
namespace Rn
open PySem PySem.Spec PyProof.Rows L2
/-! ## calls of a def that shows lists, where nothing is being shown -/
structure FnH (P : Program) (w : World) (K : PySem.W.Frag) (mg : Str → Option Value) (base : Heap) (k : Nat) (f : Addr) (fd : FuncData) (ps : List Str) (sp : Sp) : Prop where
  len : ∀ vs H Q E, sp vs H Q E → vs.length = ps.length
  run : FnG P w K mg base k f fd ps sp
theorem FnH.mono {P : Program} {w : World} {K : PySem.W.Frag} {mg : Str → Option Value} {base : Heap} {j k : Nat} {f : Addr} {fd : FuncData} {ps : List Str} {sp : Sp} (F : FnH P w K mg base j f fd ps sp) (h : j ≤ k) : FnH P w K mg base k f fd ps sp :=
  ⟨F.len, fun A outer s H args us vs Q E gu hr => F.run A outer s H args us vs Q E gu (hr.mono h)⟩
section
variable {X : Cx} {k : Nat} {f : Addr} {fd : FuncData} {ps : List Str} {sp : Sp} {E : XK} {x : Str} {e : Expr} {es : List Expr} {t : TA} {p pos : Pos}
theorem run_fnG {pins : List (Addr × Obj)} {σ : L2.St} {H : Hp} {s : Shared} {Q : VK} {us : List Value} {vs : List V} (F : FnH X.prog X.w X.K X.mg X.base k f fd ps sp) (gu : X.A.guards = some []) (hr : Room k X.A) (hb : Binds X.K fd ps []) (hx : Passes CX0 X E)
    (I : Inv X pins σ H s) (r : Vals vs us) (h : sp (vs ++ []) H Q E) : wpAny (model X.prog X.w) X.A (call (.ref f) us) (EP X pins σ Q) X.xe s := by
  have r2 : Vals (vs ++ []) (us ++ []) := r.append .nil
  have hl : (us ++ []).length = ps.length := by rw [← r2.length]; exact F.len _ _ _ _ h
  refine wpAny_call (codeAny_mono (F.run X.A X.stack s H ⟨us, []⟩ (us ++ []) (vs ++ []) Q E gu hr I.env0 (hb s us I.kIn hl) r2 (F.len _ _ _ _ h) h) fun r s' hq => ?_)
  cases r with
  | error e => exact hx pins σ H s e s' I hq
  | ok fl =>
    cases fl with
    | ret u => exact I.after hq
    | next => exact False.elim hq
    | brk => exact False.elim hq
    | cont => exact False.elim hq
theorem pe_callG (F : FnH X.prog X.w X.K X.mg X.base k f fd ps sp) (gu : X.A.guards = some []) (hr : Room k X.A) (hg : Gl X x) (hm : X.mg x = some (.ref f)) (hk : PySem.W.keepIn X.K (.ref f) = true) (hb : Binds X.K fd ps []) (hx : Passes CX0 X E)
    (ha : PA X (e :: es) t) (hdb : (x == ("__debug__" : Str)) = false := by decide) (he : starEach (e :: es) X.env = (false, eval e X.env) :: starEach es X.env := by rfl) (hpl : (backTo pos (starEach es X.env)).any (·.1) = false := by rfl) :
    PE X (.Call (.Name x p) (e :: es) [] pos) (tCall sp [] E t) := by
  refine ⟨fun pins s σ H Q I h => ?_⟩
  refine wpAny_Call_Name_kw (ld_glob I hg hm ?_ hdb)
  refine PySem.W.callWith_K (h₀ := X.base) I.ok.mod.kin hk (thn (ha.run pos pins s σ H _ I h) fun us s1 ⟨vs, H1, I1, r, q⟩ => ⟨I1.kIn, ?_⟩) he hpl
  exact run_fnG F gu hr hb hx I1 r q
end
end Rn
namespace Rn
open PySem PySem.Spec PyProof.Rows L2
/-! ## repr of None, a bool, an int -/
def rReprS : List V → Hp → VK → Prop := fun xs H Q => (xs = [.non] ∧ Q (.str "None") H) ∨ (∃ b, xs = [.bl b] ∧ Q (.str (if b then "True" else "False")) H) ∨ (∃ i : Int, xs = [.int i] ∧ i.natAbs.log2 < 1920 ∧ Q (.str (toString i)) H)
section
variable {X : Cx}
theorem call_reprS : CallR X (.builtin "repr") rReprS := by
  intro pins s σ H xs us Q I r h
  rcases h with ⟨rfl, q⟩ | ⟨b, rfl, q⟩ | ⟨i, rfl, hi, q⟩
  · cases r with
    | cons r1 r2 =>
      cases r2
      cases r1
      exact PySem.P.repr_of_none ⟨.str _, H, I.tok _, ⟨_, rfl⟩, q⟩
  · cases r with
    | cons r1 r2 =>
      cases r2
      cases r1
      exact PySem.P.repr_of_bool ⟨.str _, H, I.tok _, ⟨_, rfl⟩, q⟩
  · cases r with
    | cons r1 r2 =>
      cases r2
      obtain ⟨t, rfl⟩ := r1
      exact PySem.P.repr_of_int hi ⟨.str _, H, I.tok _, ⟨_, rfl⟩, q⟩
end
end Rn

set_option Elab.async false
set_option linter.all false
set_option maxRecDepth 100000
set_option maxHeartbeats 4000000
namespace Rn
open PySem PySem.Spec PyProof.Rows L2
/-! ## the source of draws that is a dict: at a, its great numbers at g; at most n draws were mixed -/
def bagKV (g : Addr) (l t f : Int) : List (Key × V) := [(Sum.inr "great", .ref g), (Sum.inr "left", .int l), (Sum.inr "turn", .int t), (Sum.inr "fold", .int f)]
theorem bag_left {g : Addr} {l t f x : Int} : putK (bagKV g l t f) (Sum.inr "left") (.int x) = bagKV g x t f := by rfl
theorem bag_turn {g : Addr} {l t f x : Int} : putK (bagKV g l t f) (Sum.inr "turn") (.int x) = bagKV g l x f := by rfl
theorem bag_get {H : Hp} {a g : Addr} {l t f : Int} (h : H a = some (.dK (bagKV g l t f))) : DGet H a (.str "left") (some (.int l)) ∧ DGet H a (.str "great") (some (.ref g)) ∧ DGet H a (.str "turn") (some (.int t)) ∧ DGet H a (.str "fold") (some (.int f)) :=
  ⟨DGet.k (k := Sum.inr "left") h, DGet.k (k := Sum.inr "great") h, DGet.k (k := Sum.inr "turn") h, DGet.k (k := Sum.inr "fold") h⟩
def Bag (H : Hp) (a g : Addr) (n : Int) : Prop := ∃ (l t f : Int) (ds : List Int), H a = some (.dK (bagKV g l t f)) ∧ H g = some (.lst (ds.map V.int)) ∧ 0 ≤ f ∧ f < 2305843009213693951 ∧ 0 ≤ t ∧ t ≤ n
theorem Bag.ne {H : Hp} {a g : Addr} {n : Int} (s : Bag H a g n) : a ≠ g := by
  obtain ⟨l, t, f, ds, h1, h2, _⟩ := s
  intro e
  rw [e, h2] at h1
  cases h1
theorem Bag.same {H H' : Hp} {a g : Addr} {n : Int} (s : Bag H a g n) (e : Same H H') : Bag H' a g n := by
  obtain ⟨l, t, f, ds, h1, h2, h3⟩ := s
  exact ⟨l, t, f, ds, e _ _ h1, e _ _ h2, h3⟩
theorem Bag.keep {H : Hp} {a g p : Addr} {o : HO} {n : Int} (s : Bag H a g n) (ha : p ≠ a) (hg : p ≠ g) : Bag (upd H p o) a g n := by
  obtain ⟨l, t, f, ds, h1, h2, h3⟩ := s
  exact ⟨l, t, f, ds, by rw [upd_ne ha.symm]; exact h1, by rw [upd_ne hg.symm]; exact h2, h3⟩
theorem Bag.mono {H : Hp} {a g : Addr} {n m : Int} (s : Bag H a g n) (h : n ≤ m) : Bag H a g m := by
  obtain ⟨l, t, f, ds, h1, h2, h3, h4, h5, h6⟩ := s
  exact ⟨l, t, f, ds, h1, h2, h3, h4, h5, Int.le_trans h6 h⟩
theorem Bag.new1 {H : Hp} {a g p : Addr} {n : Int} (s : Bag H a g n) (h : H p = none) : p ≠ a ∧ p ≠ g := by
  obtain ⟨l, t, f, ds, h1, h2, _⟩ := s
  exact ⟨(ne_of_none h1 h).symm, (ne_of_none h2 h).symm⟩
/-- what a call that draws at most c times does to the heap -/
structure Bdv (a g : Addr) (c : Int) (H H' : Hp) : Prop where
  same : Same (hid a g H) (hid a g H')
  src : ∀ n, Bag H a g n → Bag H' a g (n + c)
theorem Bdv.refl {a g : Addr} {H : Hp} : Bdv a g 0 H H := ⟨Same.refl _, fun n s => s.mono (by omega)⟩
theorem Bdv.trans {a g : Addr} {c c' e : Int} {H H1 H2 : Hp} (x : Bdv a g c H H1) (y : Bdv a g c' H1 H2) (h : c + c' ≤ e) : Bdv a g e H H2 :=
  ⟨x.same.trans y.same, fun n s => (y.src _ (x.src _ s)).mono (by omega)⟩
theorem Bdv.mono {a g : Addr} {c e : Int} {H H1 : Hp} (x : Bdv a g c H H1) (h : c ≤ e) : Bdv a g e H H1 := ⟨x.same, fun n s => (x.src _ s).mono (by omega)⟩
theorem Bdv.of {a g : Addr} {H H' : Hp} (e : Same H H') : Bdv a g 0 H H' := ⟨hid_same e, fun n s => (s.same e).mono (by omega)⟩
theorem Bdv.mut {a g : Addr} {c : Int} {H H' : Hp} {p : Addr} {o : HO} {n : Int} (x : Bdv a g c H H') (s : Bag H a g n) (h : H p = none) : Bdv a g c H (upd H' p o) := by
  obtain ⟨h1, h2⟩ := s.new1 h
  refine ⟨?_, fun m t => (x.src m t).keep h1 h2⟩
  rw [hid_oth h1 h2]
  exact same_keep x.same (hid_none h)
theorem Bdv.free {a g p : Addr} {c n : Int} {H H' : Hp} (x : Bdv a g c H H') (s : Bag H a g n) (h : H' p = none) : H p = none := by
  obtain ⟨h1, h2⟩ := (x.src n s).new1 h
  cases q : H p with
  | none => rfl
  | some o =>
    have e := (hid_get (x.same p o (hid_at q h1 h2))).1
    rw [h] at e
    cases e
theorem Bdv.made {a g : Addr} {c l t f l' t' : Int} {H H' : Hp} {ds' : List Int} (e : Same (hid a g H) (hid a g H')) (h : H a = some (.dK (bagKV g l t f)))
    (h' : H' a = some (.dK (bagKV g l' t' f))) (hg' : H' g = some (.lst (ds'.map V.int))) (h0 : t ≤ t') (h1 : t' ≤ t + c) : Bdv a g c H H' := by
  refine ⟨e, fun n s => ?_⟩
  obtain ⟨l2, t2, f2, ds, a1, a2, a3, a4, a5, a6⟩ := s
  rw [h] at a1
  injection (Option.some.inj a1) with a1
  injection a1 with _ a1
  injection a1 with _ a1
  injection a1 with b1 a1
  injection a1 with b2 _
  injection b1 with _ b1
  injection b1 with b1
  injection b2 with _ b2
  injection b2 with b2
  subst b1 b2
  exact ⟨l', t', f, ds', h', hg', a3, a4, by omega, by omega⟩
/-- a list of the way that stands beside the source -/
theorem sq_bag {K : PySem.W.Frag} {H0 H1 H' : Hp} {sa a g : Addr} {c : Int} {xs : List V} (h : SqL K H0 sa xs) (f : H0 a = none) (f2 : H0 g = none) (s : Same H0 H1) (A : Bdv a g c H1 H') : SqL K H' sa xs := by
  rcases h with (h | ⟨o, h⟩) | h
  · have h1 := s _ _ h
    have n1 : sa ≠ a := fun e => by rw [e, f] at h; cases h
    have n2 : sa ≠ g := fun e => by rw [e, f2] at h; cases h
    exact .inl (.inl (hid_get (A.same _ _ (hid_at h1 n1 n2))).1)
  · have h1 := s _ _ h
    have n1 : sa ≠ a := fun e => by rw [e, f] at h; cases h
    have n2 : sa ≠ g := fun e => by rw [e, f2] at h; cases h
    exact .inl (.inr ⟨o, (hid_get (A.same _ _ (hid_at h1 n1 n2))).1⟩)
  · exact .inr h
/-- a dict comprehension over a list that stands still -/
theorem dc_list {K : PySem.W.Frag} {a : Addr} {xs : List V} {g : TG} {tt : TT} {tk tv : TE} {vs : List Nat} {σ : L2.St} {H1 : Hp} {D : Addr} {Qd : Hp → Prop} (Pv : Nat → Hp → Prop) (h0 : Pv 0 (upd H1 D (.dK [])))
    (hl : ∀ i H, i ≤ xs.length → Pv i H → SqL K H a xs)
    (hs : ∀ i x H, xs[i]? = some x → Pv i H → g x (wipe σ vs) H fun σ2 H2 => wipe σ2 vs = wipe σ vs ∧ tt σ2 H2 fun b H3 =>
      if b = true then tk σ2 H3 fun y H4 => tv σ2 H4 fun z H5 => ∃ kvs k, y = kV k ∧ H5 D = some (.dK kvs) ∧ kvs.length < sizeLine ∧ Pv (i + 1) (upd H5 D (.dK (putK kvs k z))) else Pv (i + 1) H3) (hd : ∀ H, Pv xs.length H → Qd H) :
    ∃ W : Nat → Nat → Hp → Prop, (∃ m, W 0 m (upd H1 D (.dK []))) ∧ ∀ i m H, W i m H →
      ((Itl K a).stop i H ∧ Qd H) ∨ ((Itl K a).go i H ∧ ∃ Nx : Hp → Prop, (∀ H', Nx H' → ∃ m', m' < m ∧ W (i + 1) m' H') ∧ ∀ x H', (Itl K a).yld i H x H' → g x (wipe σ vs) H' fun σ2 H2 => wipe σ2 vs = wipe σ vs ∧ tt σ2 H2 fun b H3 =>
        if b = true then tk σ2 H3 fun y H4 => tv σ2 H4 fun z H5 => ∃ kvs k, y = kV k ∧ H5 D = some (.dK kvs) ∧ kvs.length < sizeLine ∧ Nx (upd H5 D (.dK (putK kvs k z))) else Nx H3) := by
  refine ⟨fun i m H => m = xs.length - i ∧ i ≤ xs.length ∧ Pv i H, ⟨xs.length, by simp, Nat.zero_le _, h0⟩, ?_⟩
  rintro i m H ⟨rfl, hi, p⟩
  have q := hl i H hi p
  by_cases hlt : i < xs.length
  · refine .inr ⟨⟨xs, xs[i], q, by simp [hlt]⟩, Pv (i + 1), fun H' p' => ⟨xs.length - (i + 1), by omega, rfl, hlt, p'⟩, fun x H' y => ?_⟩
    obtain ⟨e, y⟩ := y
    subst e
    exact hs i x _ (y xs q) p
  · have e : i = xs.length := by omega
    subst e
    exact .inl ⟨⟨xs, q, Nat.le_refl _⟩, hd H p⟩
/-! ## comprehensions over ints -/
/-- [x for x in range(lo, lo + n) if p(x)], where a turn changes nothing -/
theorem lc_filter {lo : Int} {n : Nat} {g : TG} {tt : TT} {te : TE} {vs : List Nat} {σ : L2.St} {H1 : Hp} {D : Addr} {Qd : Hp → Prop} (p : Int → Bool) (hD : H1 D = none) (hn : n ≤ 50000)
    (hs : ∀ i H (T : V → Hp → Prop) (F : Hp → Prop), i < n → Same H1 H → (p (lo + (i : Int)) = true → T (.int (lo + (i : Int))) H) → (p (lo + (i : Int)) = false → F H) →
      g (.int (lo + (i : Int))) (wipe σ vs) H fun σ2 H2 => wipe σ2 vs = wipe σ vs ∧ tt σ2 H2 fun b H3 => if b = true then te σ2 H3 T else F H3)
    (hd : ∀ H2, Same H1 H2 → H2 D = some (.lst ((((List.range n).map fun i : Nat => lo + (i : Int)).filter p).map V.int)) → Qd H2) :
    ∃ W : Nat → Nat → Hp → Prop, (∃ m, W 0 m (upd H1 D (.lst []))) ∧ ∀ i m H, W i m H →
      ((Itr lo n).stop i H ∧ Qd H) ∨ ((Itr lo n).go i H ∧ ∃ Nx : Hp → Prop, (∀ H', Nx H' → ∃ m', m' < m ∧ W (i + 1) m' H') ∧ ∀ x H', (Itr lo n).yld i H x H' → g x (wipe σ vs) H' fun σ2 H2 => wipe σ2 vs = wipe σ vs ∧ tt σ2 H2 fun b H3 =>
        if b = true then te σ2 H3 fun y H4 => ∃ acc, H4 D = some (.lst acc) ∧ acc.length < sizeLine ∧ Nx (upd H4 D (.lst (acc ++ [y]))) else Nx H3) := by
  have tk : ∀ i : Nat, ((List.range (i + 1)).map fun i : Nat => lo + (i : Int)).filter p = ((List.range i).map fun i : Nat => lo + (i : Int)).filter p ++ (if p (lo + (i : Int)) = true then [lo + (i : Int)] else []) := fun i => by
    rw [List.range_succ, List.map_append, List.filter_append]
    congr 1
    rw [List.map_cons, List.map_nil, List.filter_cons, List.filter_nil]
  refine lc_range (fun i H' => Same H1 H' ∧ H' D = some (.lst ((((List.range i).map fun i : Nat => lo + (i : Int)).filter p).map V.int))) ⟨same_new hD, upd_same⟩ (fun i H hi h => ?_) (fun H h => hd H h.1 h.2)
  obtain ⟨sm, hd1⟩ := h
  refine hs i H _ _ hi sm (fun e => ?_) (fun e => ?_)
  · refine ⟨_, hd1, size_lt ?_, same_keep sm hD, ?_⟩
    · rw [List.length_map]
      have := List.length_filter_le p ((List.range i).map fun i : Nat => lo + (i : Int))
      rw [List.length_map, List.length_range] at this
      omega
    · rw [upd_same, tk, if_pos e, List.map_append]
      rfl
  · refine ⟨sm, ?_⟩
    rw [tk, if_neg (by rw [e]; exact Bool.false_ne_true), List.append_nil]
    exact hd1
/-- [f(x) for x in ns], where a turn changes nothing that stood -/
theorem lc_mapI {K : PySem.W.Frag} {a : Addr} {ns : List Int} {g : TG} {te : TE} {vs : List Nat} {σ : L2.St} {H1 : Hp} {D : Addr} {Qd : Hp → Prop} (f : Int → Int) (hD : H1 D = none) (ha : SqL K H1 a (ns.map V.int)) (hn : ns.length ≤ 50000)
    (hs : ∀ (i : Nat) x H (T : V → Hp → Prop), ns[i]? = some x → Same H1 H → (∀ H', Same H H' → T (.int (f x)) H') → g (.int x) (wipe σ vs) H fun σ2 H2 => wipe σ2 vs = wipe σ vs ∧ te σ2 H2 T)
    (hd : ∀ H2, Same H1 H2 → H2 D = some (.lst ((ns.map f).map V.int)) → Qd H2) (hg : ∀ x σ H (R R' : L2.St → Hp → Prop), (∀ σ H, R σ H → R' σ H) → g x σ H R → g x σ H R') :
    ∃ W : Nat → Nat → Hp → Prop, (∃ m, W 0 m (upd H1 D (.lst []))) ∧ ∀ i m H, W i m H →
      ((Itl K a).stop i H ∧ Qd H) ∨ ((Itl K a).go i H ∧ ∃ Nx : Hp → Prop, (∀ H', Nx H' → ∃ m', m' < m ∧ W (i + 1) m' H') ∧ ∀ x H', (Itl K a).yld i H x H' → g x (wipe σ vs) H' fun σ2 H2 => wipe σ2 vs = wipe σ vs ∧ tYes σ2 H2 fun b H3 =>
        if b = true then te σ2 H3 fun y H4 => ∃ acc, H4 D = some (.lst acc) ∧ acc.length < sizeLine ∧ Nx (upd H4 D (.lst (acc ++ [y]))) else Nx H3) := by
  refine lc_list (xs := ns.map V.int) (fun i H' => Same H1 H' ∧ H' D = some (.lst (((ns.take i).map f).map V.int))) ⟨same_new hD, upd_same⟩ (fun i H _ h => h.1.seq ha) (fun i x H hx h => ?_) (fun H h => hd H h.1 ?_)
  · obtain ⟨sm, hd1⟩ := h
    rw [List.getElem?_map] at hx
    obtain ⟨c, hc, rfl⟩ := Option.map_eq_some_iff.mp hx
    have hi : i < ns.length := (List.getElem?_eq_some_iff.mp hc).1
    refine hg _ _ _ _ _ (fun σ2 H2 z => ⟨z.1, yes_thn z.2⟩) (hs i c H _ hc sm fun H' s' => ?_)
    refine ⟨_, s' _ _ hd1, size_lt (by rw [List.length_map, List.length_map, List.length_take]; omega), same_keep (sm.trans s') hD, ?_⟩
    rw [upd_same, List.take_add_one, hc, Option.toList_some, List.map_append, List.map_append]
    rfl
  · have := h.2
    rw [List.length_map, List.take_length] at this
    exact this
theorem gName_mono {i : Nat} : ∀ x σ H (R R' : L2.St → Hp → Prop), (∀ σ H, R σ H → R' σ H) → gName i x σ H R → gName i x σ H R' := fun x σ H R R' k h => k _ _ h
/-- [f(x) for x in ns], any values -/
theorem lc_mapV {K : PySem.W.Frag} {a : Addr} {ns : List Int} {g : TG} {te : TE} {vs : List Nat} {σ : L2.St} {H1 : Hp} {D : Addr} {Qd : Hp → Prop} (f : Int → V) (hD : H1 D = none) (ha : SqL K H1 a (ns.map V.int)) (hn : ns.length ≤ 50000)
    (hs : ∀ (i : Nat) x H (T : V → Hp → Prop), ns[i]? = some x → Same H1 H → (∀ H', Same H H' → T (f x) H') → g (.int x) (wipe σ vs) H fun σ2 H2 => wipe σ2 vs = wipe σ vs ∧ te σ2 H2 T)
    (hd : ∀ H2, Same H1 H2 → H2 D = some (.lst (ns.map f)) → Qd H2) (hg : ∀ x σ H (R R' : L2.St → Hp → Prop), (∀ σ H, R σ H → R' σ H) → g x σ H R → g x σ H R') :
    ∃ W : Nat → Nat → Hp → Prop, (∃ m, W 0 m (upd H1 D (.lst []))) ∧ ∀ i m H, W i m H →
      ((Itl K a).stop i H ∧ Qd H) ∨ ((Itl K a).go i H ∧ ∃ Nx : Hp → Prop, (∀ H', Nx H' → ∃ m', m' < m ∧ W (i + 1) m' H') ∧ ∀ x H', (Itl K a).yld i H x H' → g x (wipe σ vs) H' fun σ2 H2 => wipe σ2 vs = wipe σ vs ∧ tYes σ2 H2 fun b H3 =>
        if b = true then te σ2 H3 fun y H4 => ∃ acc, H4 D = some (.lst acc) ∧ acc.length < sizeLine ∧ Nx (upd H4 D (.lst (acc ++ [y]))) else Nx H3) := by
  refine lc_list (xs := ns.map V.int) (fun i H' => Same H1 H' ∧ H' D = some (.lst ((ns.take i).map f))) ⟨same_new hD, upd_same⟩ (fun i H _ h => h.1.seq ha) (fun i x H hx h => ?_) (fun H h => hd H h.1 ?_)
  · obtain ⟨sm, hd1⟩ := h
    rw [List.getElem?_map] at hx
    obtain ⟨c, hc, rfl⟩ := Option.map_eq_some_iff.mp hx
    have hi : i < ns.length := (List.getElem?_eq_some_iff.mp hc).1
    refine hg _ _ _ _ _ (fun σ2 H2 z => ⟨z.1, yes_thn z.2⟩) (hs i c H _ hc sm fun H' s' => ?_)
    refine ⟨_, s' _ _ hd1, size_lt (by rw [List.length_map, List.length_take]; omega), same_keep (sm.trans s') hD, ?_⟩
    rw [upd_same, List.take_add_one, hc, Option.toList_some, List.map_append]
    rfl
  · have := h.2
    rw [List.length_map, List.take_length] at this
    exact this
/-- [f(x) for x in range(lo, lo + n)], any values -/
theorem lc_mapR {lo : Int} {n : Nat} {g : TG} {te : TE} {vs : List Nat} {σ : L2.St} {H1 : Hp} {D : Addr} {Qd : Hp → Prop} (f : Int → V) (hD : H1 D = none) (hn : n ≤ 50000)
    (hs : ∀ (i : Nat) H (T : V → Hp → Prop), i < n → Same H1 H → (∀ H', Same H H' → T (f (lo + (i : Int))) H') → g (.int (lo + (i : Int))) (wipe σ vs) H fun σ2 H2 => wipe σ2 vs = wipe σ vs ∧ te σ2 H2 T)
    (hd : ∀ H2, Same H1 H2 → H2 D = some (.lst ((List.range n).map fun i : Nat => f (lo + (i : Int)))) → Qd H2) (hg : ∀ x σ H (R R' : L2.St → Hp → Prop), (∀ σ H, R σ H → R' σ H) → g x σ H R → g x σ H R') :
    ∃ W : Nat → Nat → Hp → Prop, (∃ m, W 0 m (upd H1 D (.lst []))) ∧ ∀ i m H, W i m H →
      ((Itr lo n).stop i H ∧ Qd H) ∨ ((Itr lo n).go i H ∧ ∃ Nx : Hp → Prop, (∀ H', Nx H' → ∃ m', m' < m ∧ W (i + 1) m' H') ∧ ∀ x H', (Itr lo n).yld i H x H' → g x (wipe σ vs) H' fun σ2 H2 => wipe σ2 vs = wipe σ vs ∧ tYes σ2 H2 fun b H3 =>
        if b = true then te σ2 H3 fun y H4 => ∃ acc, H4 D = some (.lst acc) ∧ acc.length < sizeLine ∧ Nx (upd H4 D (.lst (acc ++ [y]))) else Nx H3) := by
  refine lc_range (fun i H' => Same H1 H' ∧ H' D = some (.lst ((List.range i).map fun i : Nat => f (lo + (i : Int))))) ⟨same_new hD, upd_same⟩ (fun i H hi h => ?_) (fun H h => hd H h.1 h.2)
  obtain ⟨sm, hd1⟩ := h
  refine hg _ _ _ _ _ (fun σ2 H2 z => ⟨z.1, yes_thn z.2⟩) (hs i H _ hi sm fun H' s' => ?_)
  refine ⟨_, s' _ _ hd1, size_lt (by rw [List.length_map, List.length_range]; omega), same_keep (sm.trans s') hD, ?_⟩
  rw [upd_same, List.range_succ, List.map_append]
  rfl
/-- lists of ints at the addresses ps -/
def ListsAt (H : Hp) (ps : List Addr) (wss : List (List Int)) : Prop := Paired (fun p (ws : List Int) => H p = some (.lst (ws.map V.int))) ps wss
theorem ListsAt.same {H H' : Hp} {ps : List Addr} {wss : List (List Int)} (h : ListsAt H ps wss) (e : Same H H') : ListsAt H' ps wss := by
  induction h with
  | nil => exact .nil
  | cons r _ ih => exact .cons (e _ _ r) ih
theorem ListsAt.keep {H : Hp} {ps : List Addr} {wss : List (List Int)} {q : Addr} {o : HO} (h : ListsAt H ps wss) (hn : ∀ x ∈ ps, x ≠ q) : ListsAt (upd H q o) ps wss := by
  induction h with
  | nil => exact .nil
  | cons r _ ih => exact .cons (by rw [upd_ne (hn _ List.mem_cons_self)]; exact r) (ih fun x hx => hn x (List.mem_cons_of_mem _ hx))
theorem ListsAt.app {H : Hp} {ps qs : List Addr} {wss vss : List (List Int)} (h : ListsAt H ps wss) (h2 : ListsAt H qs vss) : ListsAt H (ps ++ qs) (wss ++ vss) := by
  induction h with
  | nil => exact h2
  | cons r _ ih => exact .cons r ih
theorem ListsAt.get {H : Hp} {ps : List Addr} {wss : List (List Int)} (h : ListsAt H ps wss) : ∀ {i : Nat} {p : Addr}, ps[i]? = some p → ∃ ws, wss[i]? = some ws ∧ H p = some (.lst (ws.map V.int)) := by
  induction h with
  | nil => intro i p z; cases z
  | cons r _ ih =>
    intro i p z
    cases i with
    | zero => cases z; exact ⟨_, rfl, r⟩
    | succ i => exact ih z
theorem ListsAt.len {H : Hp} {ps : List Addr} {wss : List (List Int)} (h : ListsAt H ps wss) : ps.length = wss.length := by
  induction h with
  | nil => rfl
  | cons _ _ ih => rw [List.length_cons, List.length_cons, ih]
theorem ListsAt.some {H : Hp} {ps : List Addr} {wss : List (List Int)} (h : ListsAt H ps wss) {p : Addr} (hp : p ∈ ps) : ∃ o, H p = some o := by
  obtain ⟨i, hi, e⟩ := List.getElem_of_mem hp
  obtain ⟨ws, _, z⟩ := h.get (i := i) (p := p) (by rw [List.getElem?_eq_getElem hi, e])
  exact ⟨_, z⟩
end Rn

set_option Elab.async false
set_option linter.all false
set_option maxRecDepth 100000
set_option maxHeartbeats 4000000
namespace Rn
open PySem PySem.Spec PyProof.Rows L2
/-! ## ** of great ints -/
def CPowW (i j : Int) : Prop := 0 ≤ j ∧ (Builtin.Int.intBits i : Int) * j ≤ 2 ^ 27
theorem op_powW {X : Cx} : OpR X (binaryOp .Pow) (rI CPowW fun i j => .int (i ^ j.toNat)) := opI fun _ _ _ _ _ _ _ hc q => pow_int hc.1 hc.2 q
theorem pow_ok {i : Int} {k : Nat} (h : i.natAbs < 2 ^ k) (h0 : 0 < k) (hk : k ≤ 1000) : CPowW i 3 := by
  refine ⟨by decide, ?_⟩
  have h1 := PySem.Flt.log2_lt_of h0 h
  have h2 : Builtin.Int.intBits i ≤ i.natAbs.log2 + 1 := by
    unfold Builtin.Int.intBits
    split <;> omega
  omega
/-! ## the other source of draws: three ints in one list -/
def Rng (H : Hp) (a : Addr) (n : Int) : Prop := ∃ dg seed cnt : Int, H a = some (.lst [.int dg, .int seed, .int cnt]) ∧ 0 ≤ seed ∧ seed < 4000000000000000000 ∧ 0 ≤ cnt ∧ cnt ≤ n
theorem Rng.same {H H' : Hp} {a : Addr} {n : Int} (s : Rng H a n) (e : Same H H') : Rng H' a n := by
  obtain ⟨dg, seed, cnt, h, r⟩ := s
  exact ⟨dg, seed, cnt, e _ _ h, r⟩
theorem Rng.keep {H : Hp} {a p : Addr} {o : HO} {n : Int} (s : Rng H a n) (ha : p ≠ a) : Rng (upd H p o) a n := by
  obtain ⟨dg, seed, cnt, h, r⟩ := s
  exact ⟨dg, seed, cnt, by rw [upd_ne ha.symm]; exact h, r⟩
theorem Rng.mono {H : Hp} {a : Addr} {n m : Int} (s : Rng H a n) (h : n ≤ m) : Rng H a m := by
  obtain ⟨dg, seed, cnt, h1, h2, h3, h4, h5⟩ := s
  exact ⟨dg, seed, cnt, h1, h2, h3, h4, Int.le_trans h5 h⟩
theorem Rng.new1 {H : Hp} {a p : Addr} {n : Int} (s : Rng H a n) (h : H p = none) : p ≠ a := by
  obtain ⟨dg, seed, cnt, h1, _⟩ := s
  exact (ne_of_none h1 h).symm
structure Rdv (a : Addr) (c : Int) (H H' : Hp) : Prop where
  same : Same (hid a a H) (hid a a H')
  src : ∀ n, Rng H a n → Rng H' a (n + c)
theorem Rdv.refl {a : Addr} {H : Hp} : Rdv a 0 H H := ⟨Same.refl _, fun n s => s.mono (by omega)⟩
theorem Rdv.trans {a : Addr} {c c' e : Int} {H H1 H2 : Hp} (x : Rdv a c H H1) (y : Rdv a c' H1 H2) (h : c + c' ≤ e) : Rdv a e H H2 :=
  ⟨x.same.trans y.same, fun n s => (y.src _ (x.src _ s)).mono (by omega)⟩
theorem Rdv.mono {a : Addr} {c e : Int} {H H1 : Hp} (x : Rdv a c H H1) (h : c ≤ e) : Rdv a e H H1 := ⟨x.same, fun n s => (x.src _ s).mono (by omega)⟩
theorem Rdv.of {a : Addr} {H H' : Hp} (e : Same H H') : Rdv a 0 H H' := ⟨hid_same e, fun n s => (s.same e).mono (by omega)⟩
theorem Rdv.mut {a : Addr} {c : Int} {H H' : Hp} {p : Addr} {o : HO} {n : Int} (x : Rdv a c H H') (s : Rng H a n) (h : H p = none) : Rdv a c H (upd H' p o) := by
  have h1 := s.new1 h
  refine ⟨?_, fun m t => (x.src m t).keep h1⟩
  rw [hid_oth h1 h1]
  exact same_keep x.same (hid_none h)
theorem Rdv.free {a p : Addr} {c n : Int} {H H' : Hp} (x : Rdv a c H H') (s : Rng H a n) (h : H' p = none) : H p = none := by
  have h1 := (x.src n s).new1 h
  cases q : H p with
  | none => rfl
  | some o =>
    have e := (hid_get (x.same p o (hid_at q h1 h1))).1
    rw [h] at e
    cases e
theorem Rdv.made {a : Addr} {c dg seed cnt dg' cnt' : Int} {H H' : Hp} (e : Same (hid a a H) (hid a a H')) (h : H a = some (.lst [.int dg, .int seed, .int cnt]))
    (h' : H' a = some (.lst [.int dg', .int seed, .int cnt'])) (h0 : cnt ≤ cnt') (h1 : cnt' ≤ cnt + c) : Rdv a c H H' := by
  refine ⟨e, fun n s => ?_⟩
  obtain ⟨d2, s2, c2, a1, a3, a4, a5, a6⟩ := s
  rw [h] at a1
  cases a1
  exact ⟨dg', seed, cnt', h', a3, a4, by omega, by omega⟩
/-! ## an expression cut off by a word of its own -/
def tCutE (t : TE) : TE := fun σ H Q => ∃ R : V → Hp → Prop, t σ H R ∧ ∀ v H', R v H' → Q v H'
theorem pe_cutE {X : Cx} {e : Expr} {t : TE} (h : PE X e t) : PE X e (tCutE t) := ⟨fun pins s σ H Q I hw =>
  let ⟨R, h1, h2⟩ := hw
  thn (h.run pins s σ H R I h1) fun v s1 ⟨x, H1, I1, r1, q1⟩ => ⟨x, H1, I1, r1, h2 _ _ q1⟩⟩
end Rn

set_option Elab.async false
set_option linter.all false
set_option maxRecDepth 100000
set_option maxHeartbeats 4000000
namespace Rn
open PySem PySem.Spec PyProof.Rows L2
/-! ## slices between numbers, and by steps -/
theorem cut_mid (xs : List V) (a b : Nat) : cutV xs (some (a : Int)) (some (b : Int)) = (xs.drop a).take (b - a) := by
  unfold cutV
  rw [show HT.sIx xs.length 0 (some (a : Int)) = min a xs.length from HT.sIx_nat xs.length _ a, show HT.sIx xs.length xs.length (some (b : Int)) = min b xs.length from HT.sIx_nat xs.length _ b]
  by_cases ha : a ≤ xs.length
  · rw [Nat.min_eq_left ha]
    by_cases hb : b ≤ xs.length
    · rw [Nat.min_eq_left hb]
    · rw [Nat.min_eq_right (by omega), List.take_of_length_le (by rw [List.length_drop]; omega), List.take_of_length_le (by rw [List.length_drop]; omega)]
  · rw [show min a xs.length = xs.length by omega, List.drop_eq_nil_of_le (Nat.le_refl _), List.drop_eq_nil_of_le (show xs.length ≤ a by omega), List.take_nil, List.take_nil]
/-- xs[lo], xs[lo + c], .. -/
def pks {α : Type} (xs : List α) (lo c : Nat) : List α := ((List.range ((xs.length - lo + c - 1) / c)).map fun k => lo + c * k).filterMap fun i => xs[i]?
theorem pks_map {α β : Type} (f : α → β) (xs : List α) (lo c : Nat) : pks (xs.map f) lo c = (pks xs lo c).map f := by
  unfold pks
  rw [List.length_map, List.map_filterMap]
  congr 1
  funext i
  rw [List.getElem?_map]
theorem vals_at {xs : List V} {us : List Value} (h : Vals xs us) : ∀ is : List Nat, Vals (is.filterMap fun i => xs[i]?) (is.filterMap fun i => us[i]?)
  | [] => .nil
  | i :: is => by
    have ih := vals_at h is
    by_cases hi : i < xs.length
    · obtain ⟨u, hu, r⟩ := Vals.get h (List.getElem?_eq_getElem hi)
      rw [List.filterMap_cons_some (List.getElem?_eq_getElem hi), List.filterMap_cons_some hu]
      exact .cons r ih
    · rw [List.filterMap_cons_none (List.getElem?_eq_none (by omega)), List.filterMap_cons_none (List.getElem?_eq_none (by rw [← h.length]; omega))]
      exact ih
theorem pick_k (its : Array Value) (lo c : Nat) (hl : lo ≤ its.size) (hc : 1 ≤ c) : (slicePick its (some (lo : Int)) none (some (c : Int))).toList = pks its.toList lo c := by
  have hb : sliceBounds (some (lo : Int)) none (some (c : Int)) its.size = ((lo : Int), (its.size : Int), (c : Int)) := by
    unfold sliceBounds
    simp only [Option.getD_some]
    rw [if_pos (show (c : Int) > 0 by omega), if_neg (show ¬ (lo : Int) < 0 by omega)]
    refine Prod.ext ?_ (Prod.ext ?_ rfl)
    · show max 0 (min (lo : Int) its.size) = (lo : Int)
      omega
    · show (if (c : Int) > 0 then (its.size : Int) else _) = _
      rw [if_pos (show (c : Int) > 0 by omega)]
  unfold slicePick pks
  rw [hb]
  have hr : sliceRange (lo : Int) (its.size : Int) (c : Int) = (List.range ((its.toList.length - lo + c - 1) / c)).map fun k => lo + c * k := by
    unfold sliceRange
    have hn : (if (c : Int) > 0 then (if (lo : Int) < (its.size : Int) then ((its.size : Int) - lo + c - 1) / c else 0) else (if (lo : Int) > (its.size : Int) then ((lo : Int) - its.size - c - 1) / (-c) else 0)).toNat = (its.toList.length - lo + c - 1) / c := by
      rw [if_pos (show (c : Int) > 0 by omega), Array.length_toList]
      split
      · rw [show (its.size : Int) - lo + c - 1 = ((its.size - lo + c - 1 : Nat) : Int) by omega]
        rfl
      · rw [show its.size - lo + c - 1 = c - 1 by omega, Nat.div_eq_of_lt (by omega)]
        rfl
    simp only []
    rw [hn]
    refine List.map_congr_left fun k _ => ?_
    have : (c : Int) * (k : Int) = ((c * k : Nat) : Int) := by rw [Int.natCast_mul]
    rw [this]
    omega
  show (((sliceRange (lo : Int) (its.size : Int) (c : Int)).filterMap (its[·]?)).toArray).toList = _
  rw [hr]
  simp only [Array.getElem?_toList]
def tSkip (K : PySem.W.Frag) (te tl ts : TE) : TE := fun σ H Q => te σ H fun v H1 => tPart tl σ H1 fun l H2 => tPart ts σ H2 fun o H3 => ∃ lo c : Nat, l = some (lo : Int) ∧ o = some (c : Int) ∧ 1 ≤ c ∧
  ∃ (a : Addr) (xs : List V), v = .ref a ∧ SqL K H3 a xs ∧ lo ≤ xs.length ∧ xs.length ≤ 100000 ∧ ∀ p, H3 p = none → Q (.ref p) (upd H3 p (.lst (pks xs lo c)))
theorem pks_len {α : Type} (xs : List α) (lo c : Nat) (hc : 1 ≤ c) : (pks xs lo c).length ≤ xs.length := by
  unfold pks
  refine Nat.le_trans (List.length_filterMap_le _ _) ?_
  rw [List.length_map, List.length_range]
  by_cases h : xs.length - lo = 0
  · rw [h, Nat.div_eq_of_lt (by omega)]
    exact Nat.zero_le _
  · have : (xs.length - lo + c - 1) / c ≤ xs.length - lo := by
      rw [Nat.div_le_iff_le_mul (by omega)]
      have h1 : (xs.length - lo - 1) * 1 ≤ (xs.length - lo - 1) * c := Nat.mul_le_mul_left _ hc
      have h2 : (xs.length - lo) * c = (xs.length - lo - 1) * c + c := by
        rw [← Nat.succ_mul]
        congr 1
        omega
      omega
    omega
theorem pe_skip {X : Cx} {e el es : Expr} {te tl ts : TE} {p3 pos : Pos} (he : PE X e te) (hl : PE X el tl) (hs : PE X es ts) : PE X (.Subscript e (.Slice (some el) none (some es) p3) pos) (tSkip X.K te tl ts) := by
  constructor
  intro pins s σ H Q I h
  refine Subscript_ (thn (he.run pins s σ H _ I h) fun v s1 z1 => ?_)
  obtain ⟨xv, H1, I1, r1, q1⟩ := z1
  refine wpAny_Slice (thn ((po_some hl).run pins s1 σ H1 _ I1 q1) fun vl s2 z2 => ?_)
  obtain ⟨l, G2, I2, pl, q2⟩ := z2
  refine thn (po_none.run pins s2 σ G2 (fun o G => o = none ∧ G = G2) I2 ⟨rfl, rfl⟩) fun vu s3 z3 => ?_
  obtain ⟨u, G3, I3, pu, rfl, rfl⟩ := z3
  refine thn ((po_some hs).run pins s3 σ G3 _ I3 q2) fun vs s4 z4 => ?_
  obtain ⟨o, G4, I4, pst, lo, c, rfl, rfl, hc, a, xs, rfl, hx, hlo, hsz, q⟩ := z4
  cases r1
  have I5 : Inv X pins σ G4 { s4 with heap := s4.heap.push { cls := .type "slice", data := .fields #[vl, vu, vs] } } := I4.kept (t' := s4.toks) fun b ob z => Heap.get?_push_of_some _ z
  obtain ⟨its, rel, plain, room⟩ := I5.list hx
  have many : its.length = xs.length := rel.length.symm
  show wpAny (model X.prog X.w) X.A (subscriptTail e (.Slice (some el) none (some es) p3) (.ref a) (.ref s4.heap.objs.size)) (EP X pins σ Q) X.xe { s4 with heap := s4.heap.push { cls := .type "slice", data := .fields #[vl, vu, vs] } }
  refine tail_any (ops := [.ref a, .ref s4.heap.objs.size]) plain.isList.typeIs (PySem.slot_list_getitem.lookup) ?_ (by with_unfolding_all rfl)
  refine wpAny_getItem_list_slice plain.isList (Heap.IsSliceOf.new _ vl vu vs) pl pu pst (by intro z; injection z with z; omega) ?_ (by rw [List.size_toArray, many]; exact size_le hsz)
  have hp := pick_k its.toArray lo c (by rw [List.size_toArray, many]; exact hlo) hc
  have hv : Vals (pks xs lo c) (slicePick its.toArray (some (lo : Int)) none (some (c : Int))).toList := by
    rw [hp]
    unfold pks
    rw [List.toList_toArray, ← many]
    exact vals_at rel _
  generalize slicePick its.toArray (some (lo : Int)) none (some (c : Int)) = arr at *
  refine ⟨.ref _, _, I5.laid (t' := s4.toks) (o := .lst (pks xs lo c)) (fun b ob z => Heap.get?_push_of_some _ z) (Nat.le_refl _) ?_, rfl, q _ (I5.hok.fresh (Nat.le_refl _))⟩
  exact ⟨Nat.le_trans (pks_len xs lo c hc) (size_le hsz), arr.toList, 0, hv, by rw [Heap.get?_push_size _ rfl]⟩
/-! ## range(lo, hi, c), c at least 1 -/
theorem RgC.up {i j c : Int} (hc : 1 ≤ c) (hc' : c < 1000000) (hi : 0 ≤ i) (hi' : i < 1000000) (hj : 0 ≤ j) (hj' : j < 1000000) : RgC i j c (if i < j then ((j - i - 1) / c + 1).toNat else 0) := by
  have hs : Builtin.Range.rangeSize i j c = ((if i < j then ((j - i - 1) / c + 1).toNat else 0 : Nat) : Int) := by
    unfold Builtin.Range.rangeSize
    rw [if_pos (show c > 0 by omega)]
    split
    · have := Int.ediv_nonneg (show 0 ≤ j - i - 1 by omega) (show 0 ≤ c by omega)
      omega
    · rfl
  have hb : Builtin.Range.rangeSize i j c ≤ 1000000 := by
    rw [hs]
    split
    · have h0 := Int.ediv_nonneg (show 0 ≤ j - i - 1 by omega) (show 0 ≤ c by omega)
      have h1 := Int.ediv_le_self c (show (0 : Int) ≤ j - i - 1 by omega)
      omega
    · decide
  have hb0 : 0 ≤ Builtin.Range.rangeSize i j c := by rw [hs]; omega
  refine ⟨by omega, by omega, ?_, hs⟩
  unfold Builtin.Range.small
  generalize Builtin.Range.rangeSize i j c = z at *
  simp only [Builtin.Range.rangeFitsLong, Bool.and_eq_true, Bool.or_eq_true, decide_eq_true_eq, beq_iff_eq, if_pos (show c > 0 by omega)]
  refine ⟨⟨⟨⟨?_, ?_⟩, ?_⟩, ?_⟩, .inr ?_⟩ <;> omega
theorem RgC.blocks {n q : Nat} (hn : 1 ≤ n) (hq : 1 ≤ q) (hb : n * q < 1000000) : RgC (n : Int) ((n * q : Nat) : Int) (n : Int) (q - 1) := by
  have h1 : n * 1 ≤ n * q := Nat.mul_le_mul_left _ hq
  have h := RgC.up (i := (n : Int)) (j := ((n * q : Nat) : Int)) (c := (n : Int)) (by omega) (by omega) (by omega) (by omega) (by omega) (by omega)
  have e : (if (n : Int) < ((n * q : Nat) : Int) then (((((n * q : Nat) : Int) - n - 1) / n + 1).toNat) else 0) = q - 1 := by
    by_cases h2 : q = 1
    · rw [h2, if_neg (by omega)]
    · have h3 : n * q = n * (q - 2) + n + n := by
        rw [show q = q - 2 + 1 + 1 by omega, Nat.mul_succ, Nat.mul_succ]
        rfl
      rw [if_pos (by omega)]
      have h4 : (((n * q : Nat) : Int) - n - 1) / n = ((q - 2 : Nat) : Int) := by
        rw [show ((n * q : Nat) : Int) - n - 1 = ((n : Int) - 1) + n * ((q - 2 : Nat) : Int) by rw [h3]; omega, Int.add_mul_ediv_left _ _ (by omega), Int.ediv_eq_zero_of_lt (by omega) (by omega), Int.zero_add]
      rw [h4]
      omega
  rw [e] at h
  exact h
/-! ## inner numbers -/
def blk (ws : List Int) (n c : Nat) : List Int := (ws.drop (c * n)).take (n - 1)
def repB (ws : List Int) (n : Nat) : Bool := (List.range ((ws.length + 1) / n)).all fun c => decide (blk ws n c = blk ws n 0)
def innB (ws : List Int) (n : Int) : Bool := decide (1 ≤ n) && decide (((ws.length : Int) + 1) % n = 0) && repB ws n.toNat
def innL (ws : List Int) : List Int := ((List.range (ws.length + 1)).map fun i => ((i : Nat) : Int) + 1).filter (innB ws)
theorem repB_of {ws : List Int} {n : Nat} (h : ∀ c, c < (ws.length + 1) / n → blk ws n c = blk ws n 0) : repB ws n = true := by
  unfold repB
  rw [List.all_eq_true]
  intro c hc
  exact decide_eq_true (h c (List.mem_range.mp hc))
theorem repB_not {ws : List Int} {n c : Nat} (hc : c < (ws.length + 1) / n) (h : blk ws n c ≠ blk ws n 0) : repB ws n = false := by
  unfold repB
  rw [List.all_eq_false]
  exact ⟨c, List.mem_range.mpr hc, by rw [decide_eq_false h]; decide⟩
theorem blk_map (ws : List Int) (n c : Nat) : ((ws.map V.int).drop (c * n)).take (n - 1) = (blk ws n c).map V.int := by
  unfold blk
  rw [List.map_take, List.map_drop]
/-- the definition by places -/
def Per (ws : List Int) (n : Nat) : Prop := 1 ≤ n ∧ n ∣ ws.length + 1 ∧ ∀ c r, r + 1 < n → c * n + r < ws.length → ws[c * n + r]? = ws[r]?
theorem blk_get {ws : List Int} {n c r : Nat} (h : r + 1 < n) : (blk ws n c)[r]? = ws[c * n + r]? := by
  unfold blk
  rw [List.getElem?_take_of_lt (by omega), List.getElem?_drop]
theorem per_iff {ws : List Int} {n : Nat} : innB ws (n : Int) = true ↔ Per ws n := by
  unfold innB Per
  rw [Bool.and_eq_true, Bool.and_eq_true, decide_eq_true_eq, decide_eq_true_eq, Int.toNat_natCast]
  have hd : ((ws.length : Int) + 1) % (n : Int) = 0 ↔ n ∣ ws.length + 1 := by
    rw [← Int.natCast_dvd_natCast, ← Int.dvd_iff_emod_eq_zero]
    rfl
  rw [hd]
  constructor
  · rintro ⟨⟨h1, h2⟩, h3⟩
    refine ⟨by omega, h2, fun c r hr hl => ?_⟩
    unfold repB at h3
    rw [List.all_eq_true] at h3
    have hc : c < (ws.length + 1) / n := by
      rw [Nat.lt_div_iff_mul_lt' h2]
      rw [Nat.mul_comm]
      omega
    have := of_decide_eq_true (h3 c (List.mem_range.mpr hc))
    rw [← blk_get hr, this, blk_get hr, Nat.zero_mul, Nat.zero_add]
  · rintro ⟨h1, h2, h3⟩
    refine ⟨⟨by omega, h2⟩, repB_of fun c hc => ?_⟩
    obtain ⟨q, hq⟩ := h2
    have hc' : c < q := by
      rw [hq, Nat.mul_div_cancel_left _ (by omega)] at hc
      exact hc
    have hb : c * n + n ≤ ws.length + 1 := by
      rw [hq, Nat.mul_comm n q, ← Nat.succ_mul]
      exact Nat.mul_le_mul_right _ hc'
    apply List.ext_getElem?
    intro r
    by_cases hr : r + 1 < n
    · rw [blk_get hr, blk_get hr, Nat.zero_mul, Nat.zero_add]
      exact h3 c r hr (by omega)
    · rw [List.getElem?_eq_none (by unfold blk; rw [List.length_take]; omega), List.getElem?_eq_none (by unfold blk; rw [List.length_take]; omega)]
/-! ## how many different ints -/
def fM (ns : List Int) : List Int := firstMet (fun i => ns.getD i 0) ns.length
theorem fM_len (ns : List Int) : (fM ns).length ≤ ns.length := firstMet_length_le _ _
theorem fM_same (f : Nat → Int) (w : Int) : ∀ n, (∀ i, i < n + 1 → f i = w) → firstMet f (n + 1) = [w]
  | 0, h => by
    rw [firstMet_succ, show f 0 = w from h 0 (by omega)]
    rfl
  | n + 1, h => by
    rw [firstMet_succ, fM_same f w n fun i hi => h i (by omega), h (n + 1) (by omega)]
    unfold step_dedup
    simp
theorem fM_one {ns : List Int} {w : Int} (h0 : ns ≠ []) (h : ∀ x ∈ ns, x = w) : fM ns = [w] := by
  unfold fM
  obtain ⟨n, hn⟩ : ∃ n, ns.length = n + 1 := ⟨ns.length - 1, by have := List.length_pos_iff.mpr h0; omega⟩
  rw [hn]
  refine fM_same _ w n fun i hi => ?_
  have hi' : i < ns.length := by omega
  rw [List.getD_eq_getElem?_getD, List.getElem?_eq_getElem hi']
  exact h _ (List.getElem_mem hi')
theorem fM_two {ns : List Int} {x y : Int} (hx : x ∈ ns) (hy : y ∈ ns) (h : x ≠ y) : 1 < (fM ns).length := by
  have mem : ∀ z, z ∈ ns → z ∈ fM ns := fun z hz => by
    have h1 : (fM ns).any (· == z) = true := by
      unfold fM
      rw [firstMet_any, List.any_eq_true]
      obtain ⟨i, hi, e⟩ := List.getElem_of_mem hz
      refine ⟨z, List.mem_map.mpr ⟨i, List.mem_range.mpr hi, ?_⟩, by simp⟩
      show ns.getD i 0 = z
      rw [List.getD_eq_getElem?_getD, List.getElem?_eq_getElem hi]
      exact e
    obtain ⟨u, hu, e⟩ := List.any_eq_true.mp h1
    rw [← eq_of_beq e]
    exact hu
  have m1 := mem x hx
  have m2 := mem y hy
  match e : fM ns with
  | [] => rw [e] at m1; cases m1
  | [u] =>
    rw [e] at m1 m2
    exact absurd ((List.mem_singleton.mp m1).trans (List.mem_singleton.mp m2).symm) h
  | u :: v :: r => simp only [List.length_cons]; omega
def tLenSetA (K : PySem.W.Frag) (ta : TE) : TE := fun σ H Q => ta σ H fun x H1 => ∃ (l : Addr) (ns : List Int), x = .ref l ∧ SqL K H1 l (ns.map V.int) ∧ ns.length ≤ 4000 ∧ Q (.int ((fM ns).length : Nat)) H1
theorem pe_lenSetA {X : Cx} {K : PySem.W.Frag} (hK : X.K = K) {a : Expr} {ta : TE} {p p2 q pos : Pos} (hg : Gl X "len") (hm : X.mg "len" = none) (hg2 : Gl X "set") (hm2 : X.mg "set" = none) (ha : PE X a ta) (hc : X.calm = true := by rfl)
    (na : starEach [a] X.env = (false, eval a X.env) :: starEach [] X.env := by rfl) : PE X (.Call (.Name "len" p) [.Call (.Name "set" p2) [a] [] q] [] pos) (tLenSetA K ta) := by
  subst hK
  constructor
  intro pins s σ H Q I h
  refine Call_ (ld_blt I hg hm boot_len (PyProof.Rows.callWith_builtin1 (PyProof.Rows.args_cons (Call_ (ld_blt I hg2 hm2 boot_set (PyProof.Rows.callWith_type1 (PyProof.Rows.args_cons (thn (ha.run pins s σ H _ I h) fun v s1 z => PyProof.Rows.args_nil ?_) na) na rfl))) rfl) rfl rfl))
  obtain ⟨x, H1, I1, r1, l, ns, rfl, hq, hl, q1⟩ := z
  cases r1
  obtain ⟨its, rel, pl, room⟩ := I1.list hq
  have many : its.toArray.size = ns.length := by rw [List.size_toArray, ← rel.length, List.length_map]
  refine call_set_list (I1.ok.hd hc) pl.isList (by rw [List.toList_toArray]; exact RZ.intsAre_vals rel) (by rw [many]; unfold scanBound; omega) fun h' tk hS hk => PyProof.Rows.args_nil ?_
  rw [many] at hS
  obtain ⟨o, es, ep, t, ho, hex, hd, _, _, _, hf, hn⟩ := hS
  have I2 : Inv X pins σ H1 { s1 with heap := h', toks := tk } := I1.kept fun b o e => hk b o (Heap.lt_size e) e
  have le := fM_len ns
  unfold fM at le
  exact call_len_set ho hex hd hf (by rw [hn]; omega) ⟨.int ((fM ns).length : Nat), H1, I2.tok _, ⟨_, by rw [hn]; rfl⟩, q1⟩
end Rn

set_option Elab.async false
set_option linter.all false
set_option maxRecDepth 100000
set_option maxHeartbeats 4000000
namespace Rn
open PySem PySem.Spec PyProof.Rows L2
/-! ## periods: by numbers of waits -/
/-- wait number j (from 1) -/
def wt (ws : List Int) (j : Nat) : Option Int := ws[j - 1]?
def PerC (ws : List Int) (n : Nat) : Prop := 1 ≤ n ∧ n ∣ ws.length + 1 ∧ ∀ i j, 1 ≤ i → i < ws.length + 1 → 1 ≤ j → j < ws.length + 1 → i % n = j % n → i % n ≠ 0 → wt ws i = wt ws j
theorem per_c {ws : List Int} {n : Nat} : Per ws n ↔ PerC ws n := by
  constructor
  · rintro ⟨h1, h2, h3⟩
    have key : ∀ i, 1 ≤ i → i < ws.length + 1 → i % n ≠ 0 → wt ws i = ws[i % n - 1]? := fun i i1 i2 i3 => by
      have e := Nat.div_add_mod i n
      have hm := Nat.mod_lt i (show n > 0 by omega)
      have := h3 (i / n) (i % n - 1) (by omega) (by rw [Nat.mul_comm]; omega)
      rw [← this]
      unfold wt
      congr 1
      rw [Nat.mul_comm]
      omega
    exact ⟨h1, h2, fun i j i1 i2 j1 j2 e z => by rw [key i i1 i2 z, key j j1 j2 (by rw [← e]; exact z), e]⟩
  · rintro ⟨h1, h2, h3⟩
    refine ⟨h1, h2, fun c r hr hl => ?_⟩
    have m1 : (c * n + r + 1) % n = r + 1 := by
      rw [Nat.add_assoc, Nat.mul_comm, Nat.mul_add_mod, Nat.mod_eq_of_lt (by omega)]
    have m2 : (r + 1) % n = r + 1 := Nat.mod_eq_of_lt hr
    have := h3 (c * n + r + 1) (r + 1) (by omega) (by omega) (by omega) (by
      have : r ≤ c * n + r := Nat.le_add_left _ _
      omega) (by rw [m1, m2]) (by rw [m1]; omega)
    exact this
/-- what stays under steps of a and of b stays under steps of their greatest common divisor -/
theorem gcd_step {α : Type} {g : Nat} {W : Nat → α} {C : Nat → Prop} (hC : ∀ x d, g ∣ d → C x → C (x + d)) (a b : Nat) : g ∣ a → g ∣ b → (∀ x, C x → W (x + a) = W x) → (∀ x, C x → W (x + b) = W x) → ∀ x, C x → W (x + Nat.gcd a b) = W x := by
  induction a, b using Nat.gcd.induction with
  | H0 b => intro _ _ _ hb x hx; rw [Nat.gcd_zero_left]; exact hb x hx
  | H1 a b ha ih =>
    intro ga gb h1 h2 x hx
    rw [Nat.gcd_rec]
    have gm : g ∣ b % a := (Nat.dvd_mod_iff ga).mpr gb
    have many : ∀ q y, C y → W (y + a * q) = W y := by
      intro q
      induction q with
      | zero => intro y _; rfl
      | succ q ih => intro y hy; rw [Nat.mul_succ, ← Nat.add_assoc, h1 _ (hC y _ (Nat.dvd_mul_right_of_dvd ga q) hy), ih y hy]
    refine ih gm ga (fun y hy => ?_) h1 x hx
    rw [← many (b / a) (y + b % a) (hC y _ gm hy), Nat.add_assoc, Nat.mod_add_div]
    exact h2 y hy
/-- .. and any number of steps -/
theorem steps {α : Type} {g : Nat} {W : Nat → α} {C : Nat → Prop} (hC : ∀ x d, g ∣ d → C x → C (x + d)) {d : Nat} (gd : g ∣ d) (h : ∀ x, C x → W (x + d) = W x) : ∀ k x, C x → W (x + d * k) = W x
  | 0, x, _ => rfl
  | k + 1, x, hx => by rw [Nat.mul_succ, ← Nat.add_assoc, h _ (hC x _ (Nat.dvd_mul_right_of_dvd gd k) hx), steps hC gd h k x hx]
theorem not_dvd_add {g : Nat} (x d : Nat) (h : g ∣ d) (hx : ¬ g ∣ x) : ¬ g ∣ x + d := fun z => hx ((Nat.dvd_add_iff_left h).mpr z)
/-- some number of steps of a leads from x to 1, by b -/
theorem lead {a b : Nat} (hb : 1 ≤ b) (h : Nat.gcd a b = 1) (x : Nat) : ∃ m, (x + m * a) % b = 1 % b := by
  let R : Nat → Prop := fun x => ∃ m, (x + m * a) % b = 1 % b
  have hA : ∀ x, True → R (x + a) = R x := fun x _ => propext ⟨fun ⟨m, e⟩ => ⟨m + 1, by rw [← e]; congr 1; rw [Nat.succ_mul]; omega⟩, fun ⟨m, e⟩ => ⟨m + (b - 1), by
    rw [← e]
    have : x + a + (m + (b - 1)) * a = x + m * a + b * a := by
      have e1 : b * a = (b - 1) * a + a := by rw [← Nat.succ_mul]; congr 1; omega
      rw [e1, Nat.add_mul]
      omega
    rw [this, Nat.add_mul_mod_self_left]⟩⟩
  have hB : ∀ x, True → R (x + b) = R x := fun x _ => propext ⟨fun ⟨m, e⟩ => ⟨m, by rw [← e, show x + b + m * a = x + m * a + b by omega, Nat.add_mod_right]⟩, fun ⟨m, e⟩ => ⟨m, by rw [← e, show x + b + m * a = x + m * a + b by omega, Nat.add_mod_right]⟩⟩
  have h1 := gcd_step (g := 1) (W := R) (C := fun _ => True) (fun _ _ _ _ => trivial) a b (Nat.one_dvd _) (Nat.one_dvd _) hA hB
  rw [h] at h1
  have h2 := steps (g := 1) (W := R) (C := fun _ => True) (fun _ _ _ _ => trivial) (Nat.one_dvd 1) h1
  have h3 : R 1 := ⟨0, by rw [Nat.zero_mul, Nat.add_zero]⟩
  have h4 : R 0 := by
    have := h1 0 trivial
    rw [← this]
    exact h3
  have := h2 x 0 trivial
  rw [Nat.zero_add, Nat.one_mul] at this
  show R x
  rw [this]
  exact h4
theorem wt_ring {ws : List Int} {n : Nat} (h : PerC ws n) : ∀ x, ¬ n ∣ x → wt ws ((x + n) % (ws.length + 1)) = wt ws (x % (ws.length + 1)) := fun x hx => by
  obtain ⟨h1, h2, h3⟩ := h
  have d1 : (x + n) % (ws.length + 1) % n = x % n := by rw [Nat.mod_mod_of_dvd _ h2, Nat.add_mod_right]
  have d2 : x % (ws.length + 1) % n = x % n := Nat.mod_mod_of_dvd _ h2
  have z : x % n ≠ 0 := fun e => hx (Nat.dvd_of_mod_eq_zero e)
  have nz : ∀ y, y % n ≠ 0 → 1 ≤ y := fun y e => by
    cases y with
    | zero => rw [Nat.zero_mod] at e; exact absurd rfl e
    | succ y => omega
  exact h3 _ _ (nz _ (by rw [d1]; exact z)) (Nat.mod_lt _ (by omega)) (nz _ (by rw [d2]; exact z)) (Nat.mod_lt _ (by omega)) (by rw [d1, d2]) (by rw [d1]; exact z)
theorem per_gcd {ws : List Int} {a b : Nat} (ha : PerC ws a) (hb : PerC ws b) : PerC ws (Nat.gcd a b) := by
  have g1 : 1 ≤ Nat.gcd a b := Nat.gcd_pos_of_pos_left _ ha.1
  have ga := Nat.gcd_dvd_left a b
  have gb := Nat.gcd_dvd_right a b
  have step := gcd_step (g := Nat.gcd a b) (W := fun x => wt ws (x % (ws.length + 1))) (C := fun x => ¬ Nat.gcd a b ∣ x) (fun x d hd hx => not_dvd_add x d hd hx) a b ga gb
    (fun x hx => wt_ring ha x fun z => hx (Nat.dvd_trans ga z)) (fun x hx => wt_ring hb x fun z => hx (Nat.dvd_trans gb z))
  generalize Nat.gcd a b = g at *
  have many := steps (g := g) (W := fun x => wt ws (x % (ws.length + 1))) (C := fun x => ¬ g ∣ x) (fun x d hd hx => not_dvd_add x d hd hx) (Nat.dvd_refl g) step
  have base : ∀ i, 1 ≤ i → i < ws.length + 1 → i % g ≠ 0 → wt ws i = wt ws ((i % g) % (ws.length + 1)) := fun i i1 i2 i3 => by
    have m0 := Nat.mod_lt i (show g > 0 by omega)
    have := many (i / g) (i % g) (fun z => i3 (by
      have := Nat.eq_zero_of_dvd_of_lt z m0
      exact this))
    rw [Nat.mod_add_div, Nat.mod_eq_of_lt i2] at this
    exact this
  exact ⟨g1, Nat.dvd_trans ga ha.2.1, fun i j i1 i2 j1 j2 e z => by rw [base i i1 i2 z, base j j1 j2 (by rw [← e]; exact z), e]⟩
theorem per_lcm {ws : List Int} {a b : Nat} (ha : PerC ws a) (hb : PerC ws b) : PerC ws (Nat.lcm a b) := by
  have la := Nat.dvd_lcm_left a b
  have lb := Nat.dvd_lcm_right a b
  refine ⟨Nat.lcm_pos ha.1 hb.1, Nat.lcm_dvd ha.2.1 hb.2.1, fun i j i1 i2 j1 j2 e z => ?_⟩
  have ea : i % a = j % a := by rw [← Nat.mod_mod_of_dvd i la, e, Nat.mod_mod_of_dvd j la]
  have eb : i % b = j % b := by rw [← Nat.mod_mod_of_dvd i lb, e, Nat.mod_mod_of_dvd j lb]
  by_cases za : i % a = 0
  · by_cases zb : i % b = 0
    · exact absurd (Nat.mod_eq_zero_of_dvd (Nat.lcm_dvd (Nat.dvd_of_mod_eq_zero za) (Nat.dvd_of_mod_eq_zero zb))) z
    · exact hb.2.2 i j i1 i2 j1 j2 eb zb
  · exact ha.2.2 i j i1 i2 j1 j2 ea za
/-- between the greatest common divisor and the least common multiple all waits are equal -/
theorem per_between {ws : List Int} {g p q : Nat} (hp : PerC ws (g * p)) (hq : PerC ws (g * q)) (hc : Nat.gcd p q = 1) (hp1 : p ≠ 1) (hq1 : q ≠ 1) :
    ∀ k, 1 ≤ k → k < p * q → wt ws (g * k) = wt ws g := by
  have g0 : 1 ≤ g := by
    cases g with
    | zero => have := hp.1; rw [Nat.zero_mul] at this; omega
    | succ g => omega
  have p0 : 2 ≤ p := by
    have : p ≠ 0 := fun z => by have := hp.1; rw [z, Nat.mul_zero] at this; omega
    omega
  have q0 : 2 ≤ q := by
    have : q ≠ 0 := fun z => by have := hq.1; rw [z, Nat.mul_zero] at this; omega
    omega
  have bound : g * (p * q) ≤ ws.length + 1 := by
    have h1 : Nat.lcm (g * p) (g * q) ∣ ws.length + 1 := Nat.lcm_dvd hp.2.1 hq.2.1
    have h2 : Nat.lcm (g * p) (g * q) = g * (p * q) := by
      rw [Nat.lcm_mul_left]
      congr 1
      unfold Nat.lcm
      rw [hc, Nat.div_one]
    rw [h2] at h1
    exact Nat.le_of_dvd (by omega) h1
  -- steps through one of them
  have via : ∀ (a b : Nat), 2 ≤ a → 2 ≤ b → Nat.gcd a b = 1 → PerC ws (g * a) → PerC ws (g * b) → ∀ k, 1 ≤ k → g * k < ws.length + 1 → ¬ a ∣ k → wt ws (g * k) = wt ws g := fun a b a2 b2 hab ha hb k k1 k2 hk => by
    obtain ⟨m, hm⟩ := lead (a := a) (b := b) (by omega) hab k
    have hm1 : (k + m * a) % b = 1 := by rw [hm, Nat.mod_eq_of_lt (by omega)]
    have nd : ¬ g * a ∣ g * k := fun z => hk (Nat.dvd_of_mul_dvd_mul_left (by omega) z)
    have s1 := steps (g := g * a) (W := fun x => wt ws (x % (ws.length + 1))) (C := fun x => ¬ g * a ∣ x) (fun x d hd hx => not_dvd_add x d hd hx) (Nat.dvd_refl _) (wt_ring ha) m (g * k) nd
    have s1' : wt ws ((g * k + g * a * m) % (ws.length + 1)) = wt ws (g * k % (ws.length + 1)) := s1
    rw [Nat.mod_eq_of_lt k2] at s1'
    rw [← s1']
    have e : g * k + g * a * m = g + g * b * ((k + m * a) / b) := by
      have h := Nat.div_add_mod (k + m * a) b
      rw [hm1] at h
      generalize (k + m * a) / b = t at *
      have h2 : g * (k + m * a) = g * (b * t + 1) := by rw [h]
      rw [Nat.mul_add, Nat.mul_add, Nat.mul_one] at h2
      rw [show g * a * m = g * (m * a) by rw [Nat.mul_assoc, Nat.mul_comm a m], Nat.mul_assoc g b t]
      omega
    rw [e]
    have nd1 : ¬ g * b ∣ g := fun z => by
      have := Nat.le_of_dvd (by omega) z
      have h3 : g * 2 ≤ g * b := Nat.mul_le_mul_left _ b2
      omega
    have s2 := steps (g := g * b) (W := fun x => wt ws (x % (ws.length + 1))) (C := fun x => ¬ g * b ∣ x) (fun x d hd hx => not_dvd_add x d hd hx) (Nat.dvd_refl _) (wt_ring hb) ((k + m * a) / b) g nd1
    have s2' : wt ws ((g + g * b * ((k + m * a) / b)) % (ws.length + 1)) = wt ws (g % (ws.length + 1)) := s2
    rw [s2']
    have hg : g < ws.length + 1 := by
      have : g * 1 ≤ g * k := Nat.mul_le_mul_left _ k1
      omega
    rw [Nat.mod_eq_of_lt hg]
  intro k k1 k2
  have k3 : g * k < ws.length + 1 := Nat.lt_of_lt_of_le (Nat.mul_lt_mul_of_pos_left k2 (by omega)) bound
  by_cases z : p ∣ k
  · have z2 : ¬ q ∣ k := fun z2 => by
      have : Nat.lcm p q ∣ k := Nat.lcm_dvd z z2
      unfold Nat.lcm at this
      rw [hc, Nat.div_one] at this
      have := Nat.le_of_dvd (by omega) this
      omega
    exact via q p q0 p0 (by rw [Nat.gcd_comm]; exact hc) hq hp k k1 k3 z2
  · exact via p q p0 q0 hc hp hq k k1 k3 z
/-! ## the list of inner numbers -/
theorem mem_innL {ws : List Int} {x : Int} : x ∈ innL ws ↔ ∃ n : Nat, x = (n : Int) ∧ PerC ws n := by
  unfold innL
  rw [List.mem_filter, List.mem_map]
  constructor
  · rintro ⟨⟨i, hi, rfl⟩, h⟩
    exact ⟨i + 1, rfl, per_c.mp (per_iff.mp h)⟩
  · rintro ⟨n, rfl, h⟩
    have h1 := h.1
    have h2 := Nat.le_of_dvd (by omega) h.2.1
    exact ⟨⟨n - 1, List.mem_range.mpr (by omega), by omega⟩, per_iff.mpr (per_c.mpr h)⟩
theorem innL_sorted (ws : List Int) : (innL ws).Pairwise (· < ·) := by
  unfold innL
  refine List.Pairwise.filter _ ?_
  rw [List.pairwise_map]
  exact List.pairwise_lt_range.imp fun h => by omega
theorem innL_len (ws : List Int) : (innL ws).length ≤ ws.length + 1 := by
  unfold innL
  refine Nat.le_trans (List.length_filter_le _ _) ?_
  rw [List.length_map, List.length_range]
  exact Nat.le_refl _
theorem sorted_ext : ∀ {xs ys : List Int}, xs.Pairwise (· < ·) → ys.Pairwise (· < ·) → (∀ x, x ∈ xs ↔ x ∈ ys) → xs = ys
  | [], [], _, _, _ => rfl
  | [], y :: ys, _, _, h => absurd ((h y).mpr List.mem_cons_self) (List.not_mem_nil)
  | x :: xs, [], _, _, h => absurd ((h x).mp List.mem_cons_self) (List.not_mem_nil)
  | x :: xs, y :: ys, hx, hy, h => by
    obtain ⟨x1, x2⟩ := List.pairwise_cons.mp hx
    obtain ⟨y1, y2⟩ := List.pairwise_cons.mp hy
    have e : x = y := by
      rcases List.mem_cons.mp ((h x).mp List.mem_cons_self) with z | z
      · exact z
      · rcases List.mem_cons.mp ((h y).mpr List.mem_cons_self) with u | u
        · exact u.symm
        · have := y1 x z
          have := x1 y u
          omega
    subst e
    rw [sorted_ext x2 y2 fun z => ⟨fun m => ?_, fun m => ?_⟩]
    · rcases List.mem_cons.mp ((h z).mp (List.mem_cons_of_mem _ m)) with u | u
      · have := x1 z m
        omega
      · exact u
    · rcases List.mem_cons.mp ((h z).mpr (List.mem_cons_of_mem _ m)) with u | u
      · have := y1 z m
        omega
      · exact u
/-! ## the two parts of a split -/
theorem low_len {ws : List Int} {n : Nat} (h : PerC ws n) : (blk ws n 0).length = n - 1 := by
  have h1 := Nat.le_of_dvd (by omega) h.2.1
  unfold blk
  rw [Nat.zero_mul, List.drop_zero, List.length_take]
  omega
theorem low_wt {ws : List Int} {n j : Nat} (h1 : 1 ≤ j) (h2 : j < n) : wt (blk ws n 0) j = wt ws j := by
  unfold wt
  rw [blk_get (by omega), Nat.zero_mul, Nat.zero_add]
theorem at_all (ws : List Int) : ∀ is : List Nat, (∀ i ∈ is, i < ws.length) → is.filterMap (fun i => ws[i]?) = is.map fun i => ws.getD i 0
  | [], _ => rfl
  | i :: is, h => by
    have hi := h i List.mem_cons_self
    rw [List.filterMap_cons_some (List.getElem?_eq_getElem hi), List.map_cons, at_all ws is fun j hj => h j (List.mem_cons_of_mem _ hj), List.getD_eq_getElem?_getD, List.getElem?_eq_getElem hi]
    rfl
theorem high_is {ws : List Int} {n q : Nat} (hn : 1 ≤ n) (hq : 1 ≤ q) (h : ws.length + 1 = n * q) : pks ws (n - 1) n = (List.range (q - 1)).map fun k => ws.getD (n - 1 + n * k) 0 := by
  have b1 : n * 1 ≤ n * q := Nat.mul_le_mul_left _ hq
  have e : (ws.length - (n - 1) + n - 1) / n = q - 1 := by
    have h2 : n * q = n * (q - 1) + n := by
      rw [← Nat.mul_succ]
      congr 1
      omega
    rw [show ws.length - (n - 1) + n - 1 = n - 1 + n * (q - 1) by omega, Nat.add_mul_div_left _ _ (by omega), Nat.div_eq_of_lt (by omega), Nat.zero_add]
  unfold pks
  rw [e, at_all ws _ fun i hi => ?_, List.map_map]
  · rfl
  · obtain ⟨k, hk, rfl⟩ := List.mem_map.mp hi
    have hk' := List.mem_range.mp hk
    have h3 : n * (k + 2) ≤ n * q := Nat.mul_le_mul_left _ (by omega)
    rw [Nat.mul_add] at h3
    omega
theorem high_len {ws : List Int} {n q : Nat} (hn : 1 ≤ n) (hq : 1 ≤ q) (h : ws.length + 1 = n * q) : (pks ws (n - 1) n).length = q - 1 := by
  rw [high_is hn hq h, List.length_map, List.length_range]
theorem high_wt {ws : List Int} {n q j : Nat} (hn : 1 ≤ n) (hq : 1 ≤ q) (h : ws.length + 1 = n * q) (h1 : 1 ≤ j) (h2 : j < q) : wt (pks ws (n - 1) n) j = wt ws (n * j) := by
  have h3 : n * (j + 1) ≤ n * q := Nat.mul_le_mul_left _ (by omega)
  have h4 : n * j = n * (j - 1) + n := by
    rw [← Nat.mul_succ]
    congr 1
    omega
  rw [Nat.mul_add] at h3
  unfold wt
  rw [high_is hn hq h, List.getElem?_map, List.getElem?_range (by omega), show n * j - 1 = n - 1 + n * (j - 1) by omega]
  show some (ws.getD (n - 1 + n * (j - 1)) 0) = _
  rw [List.getD_eq_getElem?_getD, List.getElem?_eq_getElem (by omega)]
  rfl
theorem per_low {ws : List Int} {n m : Nat} (h : PerC ws n) : PerC (blk ws n 0) m ↔ PerC ws m ∧ m ∣ n := by
  have hl := low_len h
  have h1 := h.1
  have hN := Nat.le_of_dvd (by omega) h.2.1
  have e1 : (blk ws n 0).length + 1 = n := by omega
  constructor
  · rintro ⟨m1, m2, m3⟩
    rw [e1] at m2 m3
    refine ⟨⟨m1, Nat.dvd_trans m2 h.2.1, fun i j i1 i2 j1 j2 e z => ?_⟩, m2⟩
    have red : ∀ i, 1 ≤ i → i < ws.length + 1 → i % m ≠ 0 → 1 ≤ i % n ∧ i % n < n ∧ wt ws i = wt (blk ws n 0) (i % n) ∧ i % n % m = i % m := fun i i1 i2 z => by
      have q1 : i % n % m = i % m := Nat.mod_mod_of_dvd _ m2
      have q2 := Nat.mod_lt i (show n > 0 by omega)
      have q3 : i % n ≠ 0 := fun y => by rw [y, Nat.zero_mod] at q1; exact z q1.symm
      refine ⟨by omega, q2, ?_, q1⟩
      rw [low_wt (by omega) q2]
      exact h.2.2 i (i % n) i1 i2 (by omega) (by omega) (Nat.mod_mod _ _).symm q3
    obtain ⟨a1, a2, a3, a4⟩ := red i i1 i2 z
    obtain ⟨b1, b2, b3, b4⟩ := red j j1 j2 (by rw [← e]; exact z)
    rw [a3, b3]
    exact m3 _ _ a1 a2 b1 b2 (by rw [a4, b4, e]) (by rw [a4]; exact z)
  · rintro ⟨⟨m1, m2, m3⟩, m4⟩
    refine ⟨m1, by rw [e1]; exact m4, ?_⟩
    rw [e1]
    intro i j i1 i2 j1 j2 e z
    rw [low_wt i1 i2, low_wt j1 j2]
    exact m3 i j i1 (by omega) j1 (by omega) e z
theorem per_high {ws : List Int} {n m : Nat} (h : PerC ws n) (hm : 1 ≤ m) : PerC (pks ws (n - 1) n) m ↔ PerC ws (n * m) := by
  have h1 := h.1
  obtain ⟨q, hq⟩ := h.2.1
  have q1 : 1 ≤ q := by
    cases q with
    | zero => rw [Nat.mul_zero] at hq; omega
    | succ q => omega
  have e1 : (pks ws (n - 1) n).length + 1 = q := by rw [high_len h1 q1 hq]; omega
  have lt : ∀ j, j < q → n * j < ws.length + 1 := fun j hj => by rw [hq]; exact Nat.mul_lt_mul_of_pos_left hj (by omega)
  have pos : ∀ j, 1 ≤ j → 1 ≤ n * j := fun j hj => Nat.mul_pos (by omega) (by omega)
  constructor
  · rintro ⟨m1, m2, m3⟩
    rw [e1] at m2 m3
    refine ⟨pos m m1, by rw [hq]; exact Nat.mul_dvd_mul_left n m2, fun i j i1 i2 j1 j2 e z => ?_⟩
    have en : i % n = j % n := by rw [← Nat.mod_mod_of_dvd i (Nat.dvd_mul_right n m), e, Nat.mod_mod_of_dvd j (Nat.dvd_mul_right n m)]
    by_cases zn : i % n = 0
    · obtain ⟨i', rfl⟩ := Nat.dvd_of_mod_eq_zero zn
      obtain ⟨j', rfl⟩ := Nat.dvd_of_mod_eq_zero (show j % n = 0 by rw [← en]; exact zn)
      have i1' : 1 ≤ i' := by
        cases i' with
        | zero => rw [Nat.mul_zero] at i1; omega
        | succ i => omega
      have j1' : 1 ≤ j' := by
        cases j' with
        | zero => rw [Nat.mul_zero] at j1; omega
        | succ i => omega
      rw [hq] at i2 j2
      have i2' := Nat.lt_of_mul_lt_mul_left i2
      have j2' := Nat.lt_of_mul_lt_mul_left j2
      rw [Nat.mul_mod_mul_left, Nat.mul_mod_mul_left] at e
      rw [Nat.mul_mod_mul_left] at z
      rw [← high_wt h1 q1 hq i1' i2', ← high_wt h1 q1 hq j1' j2']
      exact m3 i' j' i1' i2' j1' j2' (Nat.eq_of_mul_eq_mul_left (by omega) e) (fun y => z (by rw [y, Nat.mul_zero]))
    · exact h.2.2 i j i1 i2 j1 j2 en zn
  · rintro ⟨m1, m2, m3⟩
    refine ⟨hm, ?_, ?_⟩
    · rw [e1]
      rw [hq] at m2
      exact Nat.dvd_of_mul_dvd_mul_left (by omega) m2
    · rw [e1]
      intro i j i1 i2 j1 j2 e z
      rw [high_wt h1 q1 hq i1 i2, high_wt h1 q1 hq j1 j2]
      refine m3 _ _ (pos i i1) (lt i i2) (pos j j1) (lt j j2) ?_ ?_
      · rw [Nat.mul_mod_mul_left, Nat.mul_mod_mul_left, e]
      · rw [Nat.mul_mod_mul_left]
        intro y
        rcases Nat.mul_eq_zero.mp y with y | y
        · omega
        · exact z y
/-! ## ints in lists -/
theorem flat_ints (ns : List Int) : (ns.map V.int).all flatV = true := by
  rw [List.all_eq_true]
  intro v hv
  obtain ⟨n, _, rfl⟩ := List.mem_map.mp hv
  rfl
theorem inV_ints (x : Int) (ns : List Int) : inV (.int x) (ns.map V.int) = decide (x ∈ ns) := by
  unfold inV
  rw [List.any_map, Bool.eq_iff_iff, List.any_eq_true, decide_eq_true_eq]
  constructor
  · rintro ⟨n, hn, e⟩
    have e' : (n == x) = true := e
    rw [← eq_of_beq e']
    exact hn
  · intro h
    exact ⟨x, h, by show (x == x) = true; exact BEq.rfl⟩
theorem pair_parts {a b : Nat} (ha : 1 ≤ a) : ∃ p q, a = Nat.gcd a b * p ∧ b = Nat.gcd a b * q ∧ Nat.gcd p q = 1 ∧ Nat.lcm a b = Nat.gcd a b * (p * q) := by
  have g0 : 0 < Nat.gcd a b := Nat.gcd_pos_of_pos_left _ ha
  obtain ⟨p, hp⟩ := Nat.gcd_dvd_left a b
  obtain ⟨q, hq⟩ := Nat.gcd_dvd_right a b
  have hg : Nat.gcd a b * Nat.gcd p q = Nat.gcd a b * 1 := by
    rw [← Nat.gcd_mul_left, ← hp, ← hq, Nat.mul_one]
  have h1 := Nat.eq_of_mul_eq_mul_left g0 hg
  refine ⟨p, q, hp, hq, h1, ?_⟩
  have : Nat.lcm (Nat.gcd a b * p) (Nat.gcd a b * q) = Nat.gcd a b * (p * q) := by
    rw [Nat.lcm_mul_left]
    congr 1
    unfold Nat.lcm
    rw [h1, Nat.div_one]
  rw [← hp, ← hq] at this
  exact this
end Rn

set_option Elab.async false
set_option linter.all false
set_option maxRecDepth 100000
set_option maxHeartbeats 4000000
namespace Rn
open PySem PySem.Spec PyProof.Rows L2
/-! ## unsplittable policies -/
theorem per_one (ws : List Int) : Per ws 1 := ⟨Nat.le_refl _, Nat.one_dvd _, fun c r h _ => absurd h (by omega)⟩
theorem per_all (ws : List Int) : Per ws (ws.length + 1) := ⟨by omega, Nat.dvd_refl _, fun c r h1 h2 => by
  have : c = 0 := by
    rcases Nat.eq_zero_or_pos c with z | z
    · exact z
    · have : 1 * (ws.length + 1) ≤ c * (ws.length + 1) := Nat.mul_le_mul_right _ z
      omega
  rw [this, Nat.zero_mul, Nat.zero_add]⟩
theorem per_const {m n : Nat} {w : Int} : Per (List.replicate m w) n ↔ 1 ≤ n ∧ n ∣ m + 1 := by
  constructor
  · rintro ⟨h1, h2, _⟩
    rw [List.length_replicate] at h2
    exact ⟨h1, h2⟩
  · rintro ⟨h1, h2⟩
    refine ⟨h1, by rw [List.length_replicate]; exact h2, fun c r h3 h4 => ?_⟩
    rw [List.length_replicate] at h4
    rw [List.getElem?_replicate, List.getElem?_replicate, if_pos h4, if_pos (by
      have : r ≤ c * n + r := Nat.le_add_left _ _
      omega)]
theorem per_nest (xs ys : List Int) : Per (nestL xs ys) (xs.length + 1) := by
  have hl := nestL_len xs ys
  refine ⟨by omega, ⟨ys.length + 1, hl⟩, fun c r h1 h2 => ?_⟩
  have h3 : r ≤ c * (xs.length + 1) + r := Nat.le_add_left _ _
  rw [nestL_get _ _ _ h2, nestL_get _ _ r (by omega)]
  have m1 : (c * (xs.length + 1) + r + 1) % (xs.length + 1) = r + 1 := by
    rw [Nat.add_assoc, Nat.mul_comm, Nat.mul_add_mod, Nat.mod_eq_of_lt (by omega)]
  have m2 : (r + 1) % (xs.length + 1) = r + 1 := Nat.mod_eq_of_lt (by omega)
  rw [m1, m2, if_neg (by omega), if_neg (by omega)]
theorem inn_false {ws : List Int} {j : Nat} (h : ¬ Per ws j) : innB ws (j : Int) = false := by
  cases e : innB ws (j : Int) with
  | false => rfl
  | true => exact absurd (per_iff.mp e) h
/-- not trivial and nothing between 1 and all is an inner number -/
def Uns (ws : List Int) : Prop := 0 < ws.length ∧ ∀ j : Nat, 2 ≤ j → j < ws.length + 1 → innB ws (j : Int) = false
def unsB (ws : List Int) : Bool := decide (0 < ws.length) && (List.range (ws.length + 1)).all fun j => !(decide (2 ≤ j) && innB ws ((j : Nat) : Int))
theorem uns_iff {ws : List Int} : unsB ws = true ↔ Uns ws := by
  unfold unsB Uns
  rw [Bool.and_eq_true, decide_eq_true_eq, List.all_eq_true]
  constructor
  · rintro ⟨h1, h2⟩
    refine ⟨h1, fun j j1 j2 => ?_⟩
    have := h2 j (List.mem_range.mpr j2)
    rw [decide_eq_true j1, Bool.true_and] at this
    simpa using this
  · rintro ⟨h1, h2⟩
    refine ⟨h1, fun j hj => ?_⟩
    by_cases c : 2 ≤ j
    · rw [h2 j c (List.mem_range.mp hj), Bool.and_false]
      rfl
    · rw [decide_eq_false c, Bool.false_and]
      rfl
/-- the smallest inner number above 1 -/
def Sm (ws : List Int) (m : Nat) : Prop := (m = ws.length + 1 ∨ (2 ≤ m ∧ m < ws.length + 1 ∧ innB ws (m : Int) = true)) ∧ ∀ j : Nat, 2 ≤ j → j < m → innB ws (j : Int) = false
theorem sm_uns {ws : List Int} {m : Nat} (h : Sm ws m) (h0 : 0 < ws.length) : m = ws.length + 1 ↔ Uns ws := by
  constructor
  · intro e
    exact ⟨h0, fun j j1 j2 => h.2 j j1 (by omega)⟩
  · intro u
    rcases h.1 with e | ⟨h1, h2, h3⟩
    · exact e
    · rw [u.2 m h1 h2] at h3
      cases h3
theorem innL_two {ws : List Int} (h0 : 0 < ws.length) : innL ws = [1, (ws.length : Int) + 1] ↔ Uns ws := by
  constructor
  · intro e
    refine ⟨h0, fun j j1 j2 => inn_false fun hp => ?_⟩
    have hm : (j : Int) ∈ innL ws := mem_innL.mpr ⟨j, rfl, per_c.mp hp⟩
    rw [e] at hm
    simp only [List.mem_cons, List.not_mem_nil, or_false] at hm
    omega
  · intro u
    refine sorted_ext (innL_sorted ws) ?_ fun x => ?_
    · exact List.pairwise_cons.mpr ⟨fun x hx => by rw [List.mem_singleton.mp hx]; omega, List.pairwise_singleton _ _⟩
    · rw [mem_innL]
      simp only [List.mem_cons, List.not_mem_nil, or_false]
      constructor
      · rintro ⟨n, rfl, c⟩
        have n1 := c.1
        have n2 := Nat.le_of_dvd (by omega) c.2.1
        by_cases z1 : n = 1
        · exact .inl (by omega)
        · by_cases z2 : n = ws.length + 1
          · exact .inr (by omega)
          · have := u.2 n (by omega) (by omega)
            rw [per_iff.mpr (per_c.mpr c)] at this
            cases this
      · rintro (rfl | rfl)
        · exact ⟨1, rfl, per_c.mp (per_one ws)⟩
        · exact ⟨ws.length + 1, by push_cast; rfl, per_c.mp (per_all ws)⟩
theorem uns_const {m : Nat} {w : Int} : Uns (List.replicate m w) ↔ 0 < m ∧ ∀ j : Nat, 2 ≤ j → j < m + 1 → ¬ j ∣ m + 1 := by
  unfold Uns
  rw [List.length_replicate]
  constructor
  · rintro ⟨h1, h2⟩
    refine ⟨h1, fun j j1 j2 d => ?_⟩
    have := h2 j j1 j2
    rw [per_iff.mpr (per_const.mpr ⟨by omega, d⟩)] at this
    cases this
  · rintro ⟨h1, h2⟩
    exact ⟨h1, fun j j1 j2 => inn_false fun hp => h2 j j1 j2 (per_const.mp hp).2⟩
end Rn
namespace Rn
open PySem PySem.Spec PyProof.Rows L2
theorem sq_draw {K : PySem.W.Frag} {H0 H1 H' : Hp} {sa a : Addr} {c : Int} {xs : List V} (h : SqL K H0 sa xs) (f : H0 a = none) (s : Same H0 H1) (A : Rdv a c H1 H') : SqL K H' sa xs := by
  rcases h with (h | ⟨o, h⟩) | h
  · have ne : sa ≠ a := fun z => by rw [z, f] at h; cases h
    exact .inl (.inl (hid_get (A.same _ _ (hid_at (s _ _ h) ne ne))).1)
  · have ne : sa ≠ a := fun z => by rw [z, f] at h; cases h
    exact .inl (.inr ⟨o, (hid_get (A.same _ _ (hid_at (s _ _ h) ne ne))).1⟩)
  · exact .inr h
end Rn
namespace Rn
open PySem PySem.Spec PyProof.Rows L2
theorem nest_split {ws : List Int} {n : Nat} (h : PerC ws n) : nestL (blk ws n 0) (pks ws (n - 1) n) = ws := by
  obtain ⟨q, hq⟩ := h.2.1
  have n1 := h.1
  have q1 : 1 ≤ q := by
    rcases Nat.eq_zero_or_pos q with z | z
    · rw [z, Nat.mul_zero] at hq; omega
    · exact z
  have l1 := low_len h
  have l2 := high_len n1 q1 hq
  have ln := nestL_len (blk ws n 0) (pks ws (n - 1) n)
  rw [l1, l2, Nat.sub_add_cancel n1, Nat.sub_add_cancel q1, ← hq] at ln
  apply List.ext_getElem?
  intro j
  by_cases hj : j < ws.length
  · rw [nestL_get _ _ _ (by omega), l1, Nat.sub_add_cancel n1]
    have hdm := Nat.div_add_mod (j + 1) n
    by_cases c : (j + 1) % n = 0
    · rw [if_pos c]
      rw [c, Nat.add_zero] at hdm
      have k1 : 1 ≤ (j + 1) / n := by
        rcases Nat.eq_zero_or_pos ((j + 1) / n) with z | z
        · rw [z, Nat.mul_zero] at hdm; omega
        · exact z
      have k2 : (j + 1) / n < q := by
        rw [Nat.div_lt_iff_lt_mul (by omega), Nat.mul_comm, ← hq]
        omega
      have := high_wt n1 q1 hq k1 k2
      rw [hdm] at this
      exact this
    · rw [if_neg c]
      have ml := Nat.mod_lt (j + 1) (show n > 0 by omega)
      have h1 := low_wt (ws := ws) (n := n) (j := (j + 1) % n) (by omega) ml
      have h2 := h.2.2 (j + 1) ((j + 1) % n) (by omega) (by omega) (by omega) (by
        have := Nat.mod_le (j + 1) n
        omega) (by rw [Nat.mod_mod]) c
      exact h1.trans h2.symm
  · rw [List.getElem?_eq_none (by omega), List.getElem?_eq_none (by omega)]
theorem blk_mem {ws : List Int} {n c : Nat} {x : Int} (h : x ∈ blk ws n c) : x ∈ ws := List.mem_of_mem_drop (List.mem_of_mem_take h)
theorem pks_mem {ws : List Int} {lo c : Nat} {x : Int} (h : x ∈ pks ws lo c) : x ∈ ws := by
  unfold pks at h
  obtain ⟨i, _, hi⟩ := List.mem_filterMap.mp h
  exact List.mem_of_getElem? hi
end Rn

set_option Elab.async false
set_option linter.all false
set_option maxRecDepth 100000
set_option maxHeartbeats 4000000
namespace Rn
open PySem PySem.Spec PyProof.Rows L2
/-! # normal forms: one for each policy -/
def Lay.sz (L : Lay) : Nat := L.waits.length + 1
theorem per_low0 {ws : List Int} {n : Nat} (h : PerC ws n) : (blk ws n 0).length + 1 = n := by
  have := low_len h
  have := h.1
  omega
theorem nestL_inj {xs xs' : List Int} : ∀ {ys ys' : List Int}, xs.length = xs'.length → nestL xs ys = nestL xs' ys' → xs = xs' ∧ ys = ys' := by
  intro ys ys' hl h
  have key : ∀ (zs zs' : List Int), (zs.flatMap fun y => y :: xs) = (zs'.flatMap fun y => y :: xs) → zs = zs' := by
    intro zs
    induction zs with
    | nil => intro zs' h; cases zs' with
      | nil => rfl
      | cons z zs' => simp at h
    | cons z zs ih => intro zs' h; cases zs' with
      | nil => simp at h
      | cons z' zs' =>
        rw [List.flatMap_cons, List.flatMap_cons, List.cons_append, List.cons_append] at h
        injection h with h1 h2
        rw [h1, ih zs' (List.append_cancel_left h2)]
  unfold nestL at h
  obtain ⟨e1, e2⟩ := List.append_inj h hl
  subst e1
  exact ⟨rfl, key _ _ e2⟩
/-- a list of equal waits -/
def Flat1 (ns : List Int) : Prop := ∃ w, ns = List.replicate ns.length w
theorem flat1_of {ns : List Int} {w : Int} (h : ∀ x ∈ ns, x = w) : ns = List.replicate ns.length w := List.eq_replicate_iff.mpr ⟨rfl, h⟩
/-- a layer of a normal form -/
def Lay.nf : Lay → Prop
  | .con w n => 0 ≤ w ∧ 2 ≤ n
  | .pol ns => Uns ns ∧ ¬ Flat1 ns ∧ ∀ x ∈ ns, 0 ≤ x
theorem Lay.nf.ok {L : Lay} (h : L.nf) : L.ok = true := by
  cases L with
  | con w n =>
    obtain ⟨h1, h2⟩ := h
    rw [Lay.ok_con, decide_eq_true h1, decide_eq_true (show 1 ≤ n by omega)]
    rfl
  | pol ns =>
    rw [Lay.ok_pol, List.all_eq_true]
    exact fun x hx => decide_eq_true (h.2.2 x hx)
theorem Lay.nf.sz {L : Lay} (h : L.nf) : 2 ≤ L.sz := by
  cases L with
  | con w n =>
    show 2 ≤ (List.replicate (n - 1).toNat w).length + 1
    rw [List.length_replicate]
    have := h.2
    omega
  | pol ns =>
    show 2 ≤ ns.length + 1
    have := h.1.1
    omega
/-- no neighbouring constant layers with one wait -/
def Adj (ls : List Lay) : Prop := ∀ (i : Nat) (w n w' m : Int), ls[i]? = some (.con w n) → ls[i + 1]? = some (.con w' m) → w ≠ w'
def NF (ls : List Lay) : Prop := (∀ L ∈ ls, L.nf) ∧ Adj ls
theorem NF.tail {L : Lay} {ls : List Lay} (h : NF (L :: ls)) : NF ls := ⟨fun M hM => h.1 M (List.mem_cons_of_mem _ hM), fun i w n w' m a b => h.2 (i + 1) w n w' m a b⟩
theorem NF.oks {ls : List Lay} (h : NF ls) : ∀ L ∈ ls, L.ok = true := fun L hL => (h.1 L hL).ok
theorem head_per {L : Lay} {ls : List Lay} (h : ∀ M ∈ L :: ls, M.ok = true) : PerC (flatL (L :: ls)) L.sz := by
  rw [flatL_cons h]
  exact per_c.mp (per_nest _ _)
theorem head_split {L : Lay} {ls : List Lay} (h : ∀ M ∈ L :: ls, M.ok = true) : blk (flatL (L :: ls)) L.sz 0 = L.waits ∧ pks (flatL (L :: ls)) (L.sz - 1) L.sz = flatL ls := by
  have hp := head_per h
  have e := nest_split hp
  have l0 := per_low0 hp
  have e2 := flatL_cons h
  refine nestL_inj ?_ (e.trans e2)
  unfold Lay.sz at l0 ⊢
  omega
/-- an unsplittable inner part that is not constant stands in every inner part -/
theorem uns_in {ws : List Int} {a q : Nat} (ha : PerC ws a) (hu : Uns (blk ws a 0)) (hn : ¬ Flat1 (blk ws a 0)) (hq : PerC ws q) (q2 : 2 ≤ q) : a ∣ q := by
  have hg := per_gcd ha hq
  have ga := Nat.gcd_dvd_left a q
  have gq := Nat.gcd_dvd_right a q
  have la := per_low0 ha
  have a0 := hu.1
  by_cases c1 : Nat.gcd a q = a
  · exact c1 ▸ gq
  · exfalso
    have g0 : 1 ≤ Nat.gcd a q := Nat.gcd_pos_of_pos_left _ (by omega)
    have gle := Nat.le_of_dvd (by omega) ga
    by_cases c2 : Nat.gcd a q = 1
    · have hb := per_between (g := 1) (p := a) (q := q) (by rw [Nat.one_mul]; exact ha) (by rw [Nat.one_mul]; exact hq) c2 (by omega) (by omega)
      apply hn
      refine ⟨(blk ws a 0).getD 0 0, flat1_of fun x hx => ?_⟩
      obtain ⟨i, hi, e⟩ := List.getElem_of_mem hx
      have w1 := low_wt (ws := ws) (n := a) (j := i + 1) (by omega) (by omega)
      have w2 := low_wt (ws := ws) (n := a) (j := 1) (by omega) (by omega)
      have h1 := hb (i + 1) (by omega) (by
        have : a * 2 ≤ a * q := Nat.mul_le_mul_left _ q2
        omega)
      rw [Nat.one_mul] at h1
      have h2 : wt (blk ws a 0) (i + 1) = wt (blk ws a 0) 1 := by rw [w1, w2, h1]
      unfold wt at h2
      rw [Nat.add_sub_cancel, Nat.sub_self, List.getElem?_eq_getElem hi] at h2
      rw [List.getD_eq_getElem?_getD, ← h2, ← e]
      rfl
    · have h1 : PerC (blk ws a 0) (Nat.gcd a q) := (per_low ha).mpr ⟨hg, ga⟩
      have h2 := hu.2 (Nat.gcd a q) (by omega) (by omega)
      rw [per_iff.mpr (per_c.mpr h1)] at h2
      cases h2
theorem blk_prefix {ws : List Int} {a q : Nat} (h : a ≤ q) (ha : 1 ≤ a) : blk ws a 0 = (blk ws q 0).take (a - 1) := by
  unfold blk
  rw [Nat.zero_mul, Nat.zero_mul, List.take_take]
  congr 1
  omega
theorem flat1_take {xs : List Int} {k : Nat} (h : Flat1 xs) : Flat1 (xs.take k) := by
  obtain ⟨w, hw⟩ := h
  refine ⟨w, flat1_of fun x hx => ?_⟩
  have := List.mem_of_mem_take hx
  rw [hw] at this
  exact (List.mem_replicate.mp this).2
/-- where an inner part is constant, the first layer is a constant one with its wait -/
theorem head_con {ls : List Lay} (h : NF ls) {q : Nat} {w : Int} (hq : PerC (flatL ls) q) (q2 : 2 ≤ q) (hw : ∀ x ∈ blk (flatL ls) q 0, x = w) : ∃ n r, ls = .con w n :: r := by
  have lq := per_low0 hq
  cases ls with
  | nil =>
    have := Nat.le_of_dvd (by omega) hq.2.1
    have e : (flatL []).length = 0 := rfl
    omega
  | cons L r =>
    obtain ⟨e1, e2⟩ := head_split h.oks
    have hp := head_per h.oks
    have hL := h.1 L List.mem_cons_self
    cases L with
    | pol ns =>
      exfalso
      have hd := uns_in hp (by rw [e1]; exact hL.1) (by rw [e1]; exact hL.2.1) hq q2
      have hle := Nat.le_of_dvd (by omega) hd
      have e3 := blk_prefix (ws := flatL (.pol ns :: r)) hle hp.1
      apply hL.2.1
      have e4 : ns = (blk (flatL (.pol ns :: r)) q 0).take ((Lay.pol ns).sz - 1) := by rw [← e3, e1]; rfl
      rw [e4]
      exact flat1_take ⟨w, flat1_of hw⟩
    | con v n =>
      have hs := hL.sz
      have l1 := per_low0 hp
      have p1 := low_wt (ws := flatL (.con v n :: r)) (n := (Lay.con v n).sz) (j := 1) (Nat.le_refl _) (by omega)
      have p2 := low_wt (ws := flatL (.con v n :: r)) (n := q) (j := 1) (Nat.le_refl _) (by omega)
      have p3 := p1.trans p2.symm
      unfold wt at p3
      rw [e1, Nat.sub_self] at p3
      have hq0 : 0 < (blk (flatL (.con v n :: r)) q 0).length := by omega
      rw [List.getElem?_eq_getElem hq0] at p3
      have x1 := hw _ (List.getElem_mem hq0)
      rw [x1] at p3
      have x2 : (List.replicate (n - 1).toNat v)[0]? = some w := p3
      have x3 := List.mem_of_getElem? x2
      rw [(List.mem_replicate.mp x3).2]
      exact ⟨n, r, rfl⟩
/-- two first layers, both constant: one divides the other -/
theorem con_con {w n v m : Int} {ls ms : List Lay} (hl : NF (.con w n :: ls)) (hm : NF (.con v m :: ms)) (e : flatL (.con w n :: ls) = flatL (.con v m :: ms)) : (Lay.con v m).sz ∣ (Lay.con w n).sz := by
  have pa := head_per hl.oks
  have pb := head_per hm.oks
  rw [← e] at pb
  obtain ⟨a1, a2⟩ := head_split hl.oks
  obtain ⟨b1, b2⟩ := head_split hm.oks
  rw [← e] at b1 b2
  have sa := (hl.1 _ List.mem_cons_self).sz
  have sb := (hm.1 _ List.mem_cons_self).sz
  generalize hws : flatL (.con w n :: ls) = ws at *
  generalize ha : (Lay.con w n).sz = a at *
  generalize hb : (Lay.con v m).sz = b at *
  have la := per_low0 pa
  have lb := per_low0 pb
  have wa : ∀ j, 1 ≤ j → j < a → wt ws j = some w := fun j j1 j2 => by
    rw [← low_wt j1 j2]
    unfold wt
    rw [a1]
    have : j - 1 < (Lay.con w n).waits.length := by rw [a1] at la; omega
    rw [List.getElem?_eq_getElem this]
    have := List.getElem_mem this
    exact congrArg some (List.mem_replicate.mp (show _ ∈ List.replicate (n - 1).toNat w from this)).2
  have wb : ∀ j, 1 ≤ j → j < b → wt ws j = some v := fun j j1 j2 => by
    rw [← low_wt j1 j2]
    unfold wt
    rw [b1]
    have : j - 1 < (Lay.con v m).waits.length := by rw [b1] at lb; omega
    rw [List.getElem?_eq_getElem this]
    have := List.getElem_mem this
    exact congrArg some (List.mem_replicate.mp (show _ ∈ List.replicate (m - 1).toNat v from this)).2
  have ewv : w = v := Option.some.inj ((wa 1 (Nat.le_refl _) (by omega)).symm.trans (wb 1 (Nat.le_refl _) (by omega)))
  subst ewv
  have pl := per_lcm pa pb
  have dl : a ∣ Nat.lcm a b := Nat.dvd_lcm_left a b
  obtain ⟨c, hc⟩ := dl
  by_cases c1 : c = 1
  · rw [c1, Nat.mul_one] at hc
    rw [← hc]
    exact Nat.dvd_lcm_right a b
  · exfalso
    have c0 : c ≠ 0 := by
      intro z
      rw [z, Nat.mul_zero] at hc
      have := Nat.lcm_pos (show 0 < a by omega) (show 0 < b by omega)
      omega
    have ph : PerC (pks ws (a - 1) a) c := (per_high pa (by omega)).mpr (by rw [← hc]; exact pl)
    have lle := Nat.le_of_dvd (by omega) pl.2.1
    obtain ⟨q, hq⟩ := pa.2.1
    have q1 : 1 ≤ q := by
      rcases Nat.eq_zero_or_pos q with z | z
      · rw [z, Nat.mul_zero] at hq; omega
      · exact z
    have lhi := high_len pa.1 q1 hq
    have lc := per_low0 ph
    have cq := Nat.le_of_dvd (by omega) ph.2.1
    rw [lhi] at cq
    rw [a2] at ph lc
    obtain ⟨k, r, hr⟩ := head_con hl.tail (w := w) ph (by omega) fun x hx => by
      obtain ⟨i, hi, ex⟩ := List.getElem_of_mem hx
      have h1 := low_wt (ws := flatL ls) (n := c) (j := i + 1) (by omega) (by omega)
      have h2 := high_wt (ws := ws) pa.1 q1 hq (j := i + 1) (by omega) (by omega)
      rw [a2] at h2
      have h3 := h1.trans h2
      unfold wt at h3
      rw [Nat.add_sub_cancel, List.getElem?_eq_getElem hi, ex] at h3
      have hlt : a * (i + 1) < Nat.lcm a b := by
        rw [hc]
        exact Nat.mul_lt_mul_of_pos_left (by omega) (by omega)
      have nd : (a * (i + 1)) % b ≠ 0 := fun z => by
        have d1 : b ∣ a * (i + 1) := Nat.dvd_of_mod_eq_zero z
        have d2 := Nat.lcm_dvd (Nat.dvd_mul_right a (i + 1)) d1
        have pos : 0 < a * (i + 1) := Nat.mul_pos (by omega) (by omega)
        have := Nat.le_of_dvd pos d2
        omega
      have ml := Nat.mod_lt (a * (i + 1)) (show b > 0 by omega)
      have pos : 1 ≤ a * (i + 1) := Nat.mul_pos (by omega) (by omega)
      have mle := Nat.mod_le (a * (i + 1)) b
      have h4 := pb.2.2 (a * (i + 1)) ((a * (i + 1)) % b) pos (by omega) (by omega) (by omega) (by rw [Nat.mod_mod]) nd
      have h5 := wb ((a * (i + 1)) % b) (by omega) ml
      unfold wt at h4 h5
      rw [← h3, h5] at h4
      exact Option.some.inj h4
    rw [hr] at hl
    exact hl.2 0 w n w k rfl rfl rfl
theorem nf_unique : ∀ {ls ms : List Lay}, NF ls → NF ms → flatL ls = flatL ms → ls = ms := by
  have short : ∀ {L : Lay} {r : List Lay}, NF (L :: r) → 0 < (flatL (L :: r)).length := fun {L r} h => by
    have hp := head_per h.oks
    have hs := (h.1 L List.mem_cons_self).sz
    have := Nat.le_of_dvd (by omega) hp.2.1
    omega
  intro ls
  induction ls with
  | nil =>
    intro ms _ hm e
    cases ms with
    | nil => rfl
    | cons M r =>
      have := short hm
      rw [← e] at this
      exact absurd this (Nat.lt_irrefl 0)
  | cons L ls ih =>
    intro ms hl hm e
    cases ms with
    | nil =>
      have := short hl
      rw [e] at this
      exact absurd this (Nat.lt_irrefl 0)
    | cons M ms =>
      have pa := head_per hl.oks
      have pb := head_per hm.oks
      obtain ⟨a1, a2⟩ := head_split hl.oks
      obtain ⟨b1, b2⟩ := head_split hm.oks
      have nL := hl.1 L List.mem_cons_self
      have nM := hm.1 M List.mem_cons_self
      have sa := nL.sz
      have sb := nM.sz
      have fin : L.sz = M.sz → L = M → L :: ls = M :: ms := fun e1 e2 => by
        subst e2
        rw [flatL_cons hl.oks, flatL_cons hm.oks] at e
        rw [ih hl.tail hm.tail (nestL_inj rfl e).2]
      have same : L.sz = M.sz → L.waits = M.waits := fun e1 => by rw [← a1, ← b1, e, e1]
      cases L with
      | pol ns =>
        have ua := fun {q : Nat} (hq : PerC (flatL (.pol ns :: ls)) q) (q2 : 2 ≤ q) => uns_in pa (by rw [a1]; exact nL.1) (by rw [a1]; exact nL.2.1) hq q2
        cases M with
        | pol ms' =>
          have d1 := ua (by rw [e]; exact pb) sb
          have d2 := uns_in pb (by rw [b1]; exact nM.1) (by rw [b1]; exact nM.2.1) (by rw [← e]; exact pa) sa
          have es := Nat.dvd_antisymm d1 d2
          have := same es
          exact fin es (congrArg Lay.pol this)
        | con v m =>
          exfalso
          have d1 := ua (by rw [e]; exact pb) sb
          have hle := Nat.le_of_dvd (by omega) d1
          have e3 := blk_prefix (ws := flatL (.pol ns :: ls)) hle pa.1
          rw [a1, e, b1] at e3
          apply nL.2.1
          have e4 : ns = (Lay.con v m).waits.take ((Lay.pol ns).sz - 1) := e3
          rw [e4]
          exact flat1_take ⟨v, by
            show List.replicate (m - 1).toNat v = List.replicate (List.replicate (m - 1).toNat v).length v
            rw [List.length_replicate]⟩
      | con w n =>
        cases M with
        | pol ms' =>
          exfalso
          have d1 := uns_in pb (by rw [b1]; exact nM.1) (by rw [b1]; exact nM.2.1) (by rw [← e]; exact pa) sa
          have hle := Nat.le_of_dvd (by omega) d1
          have e3 := blk_prefix (ws := flatL (.pol ms' :: ms)) hle pb.1
          rw [b1, ← e, a1] at e3
          apply nM.2.1
          have e4 : ms' = (Lay.con w n).waits.take ((Lay.pol ms').sz - 1) := e3
          rw [e4]
          exact flat1_take ⟨w, by
            show List.replicate (n - 1).toNat w = List.replicate (List.replicate (n - 1).toNat w).length w
            rw [List.length_replicate]⟩
        | con v m =>
          have d1 := con_con hl hm e
          have d2 := con_con hm hl e.symm
          have es := Nat.dvd_antisymm d2 d1
          have ew := same es
          have s1 : (Lay.con w n).sz = (n - 1).toNat + 1 := by
            show (List.replicate (n - 1).toNat w).length + 1 = _
            rw [List.length_replicate]
          have s2 : (Lay.con v m).sz = (m - 1).toNat + 1 := by
            show (List.replicate (m - 1).toNat v).length + 1 = _
            rw [List.length_replicate]
          have n2 := nL.2
          have m2 := nM.2
          have enm : n = m := by omega
          subst enm
          obtain ⟨k, hk⟩ : ∃ k, (n - 1).toNat = k + 1 := ⟨(n - 1).toNat - 1, by omega⟩
          have ew' : List.replicate (n - 1).toNat w = List.replicate (n - 1).toNat v := ew
          rw [hk, List.replicate_succ, List.replicate_succ] at ew'
          injection ew' with ew1 ew2
          subst ew1
          exact fin rfl rfl
end Rn
namespace Rn
open PySem PySem.Spec PyProof.Rows L2
/-! ## the parts of a list -/
theorem sm_per {ws : List Int} {n : Nat} (h : Sm ws n) (h0 : 0 < ws.length) : 2 ≤ n ∧ PerC ws n := by
  rcases h.1 with e | ⟨h1, h2, h3⟩
  · exact ⟨by omega, by rw [e]; exact per_c.mp (per_all ws)⟩
  · exact ⟨h1, per_c.mp (per_iff.mp h3)⟩
theorem sm_uns_low {ws : List Int} {n : Nat} (h : Sm ws n) (h0 : 0 < ws.length) : Uns (blk ws n 0) := by
  obtain ⟨n2, hp⟩ := sm_per h h0
  have hl := per_low0 hp
  refine ⟨by omega, fun j j1 j2 => inn_false fun z => ?_⟩
  have h1 := ((per_low hp).mp (per_c.mp z)).1
  have := h.2 j j1 (by omega)
  rw [per_iff.mpr (per_c.mpr h1)] at this
  cases this
inductive Parts : List Int → List Lay → Prop
  | nil : Parts [] []
  | con {ws : List Int} {n : Nat} {w : Int} {ls : List Lay} (h0 : 0 < ws.length) (hm : Sm ws n) (hc : blk ws n 0 = List.replicate (n - 1) w) (t : Parts (pks ws (n - 1) n) ls) : Parts ws (.con w (n : Int) :: ls)
  | pol {ws : List Int} {n : Nat} {ls : List Lay} (h0 : 0 < ws.length) (hm : Sm ws n) (hc : ¬ Flat1 (blk ws n 0)) (t : Parts (pks ws (n - 1) n) ls) : Parts ws (.pol (blk ws n 0) :: ls)
theorem parts_ok {ws : List Int} {ls : List Lay} (h : Parts ws ls) (hn : ∀ x ∈ ws, 0 ≤ x) : (∀ L ∈ ls, L.nf) ∧ flatL ls = ws := by
  induction h with
  | nil => exact ⟨(fun _ z => nomatch z), rfl⟩
  | con h0 hm hc t ih =>
    rename_i ws n w ls
    obtain ⟨i1, i2⟩ := ih fun x hx => hn x (pks_mem hx)
    obtain ⟨n2, hp⟩ := sm_per hm h0
    have hw : w ∈ blk ws n 0 := by rw [hc]; exact List.mem_replicate.mpr ⟨by omega, rfl⟩
    have g : (Lay.con w (n : Int)).nf := ⟨hn w (blk_mem hw), by omega⟩
    have all : ∀ L ∈ Lay.con w (n : Int) :: ls, L.nf := fun L hL => by
      rcases List.mem_cons.mp hL with e | e
      · rw [e]; exact g
      · exact i1 L e
    refine ⟨all, ?_⟩
    rw [flatL_cons fun L hL => (all L hL).ok, i2]
    have e : (Lay.con w (n : Int)).waits = blk ws n 0 := by
      rw [hc]
      show List.replicate ((n : Int) - 1).toNat w = _
      congr 1
      omega
    rw [e, nest_split hp]
  | pol h0 hm hc t ih =>
    rename_i ws n ls
    obtain ⟨i1, i2⟩ := ih fun x hx => hn x (pks_mem hx)
    obtain ⟨n2, hp⟩ := sm_per hm h0
    have g : (Lay.pol (blk ws n 0)).nf := ⟨sm_uns_low hm h0, hc, fun x hx => hn x (blk_mem hx)⟩
    have all : ∀ L ∈ Lay.pol (blk ws n 0) :: ls, L.nf := fun L hL => by
      rcases List.mem_cons.mp hL with e | e
      · rw [e]; exact g
      · exact i1 L e
    refine ⟨all, ?_⟩
    rw [flatL_cons fun L hL => (all L hL).ok, i2]
    exact nest_split hp
/-! ## merging -/
def pushL (acc : List Lay) (L : Lay) : List Lay :=
  match acc.getLast?, L with
  | some (.con w n), .con v m => if w = v then acc.dropLast ++ [.con w (n * m)] else acc ++ [L]
  | _, _ => acc ++ [L]
def mergeL (ls : List Lay) : List Lay := ls.foldl pushL []
theorem flatF {ls : List Lay} (h : ∀ L ∈ ls, L.ok = true) (L : Lay) (hL : L.ok = true) : flatL (ls ++ [L]) = nestL (flatL ls) L.waits := by
  have h2 : ∀ M ∈ ls ++ [L], M.ok = true := fun M hM => by
    rcases List.mem_append.mp hM with z | z
    · exact h M z
    · rw [List.mem_singleton.mp z]; exact hL
  rw [flatL_fold h2, flatL_fold h, List.foldl_append]
  rfl
theorem nest_rep (a b : Nat) (w : Int) : nestL (List.replicate a w) (List.replicate b w) = List.replicate ((a + 1) * (b + 1) - 1) w := by
  refine List.eq_replicate_iff.mpr ⟨?_, fun x hx => ?_⟩
  · have := nestL_len (List.replicate a w) (List.replicate b w)
    rw [List.length_replicate, List.length_replicate] at this
    omega
  · rcases nestL_mem hx with z | z
    · exact (List.mem_replicate.mp z).2
    · exact (List.mem_replicate.mp z).2
theorem push_cases (acc : List Lay) (L : Lay) : (∃ A w n m, acc = A ++ [.con w n] ∧ L = .con w m ∧ pushL acc L = A ++ [.con w (n * m)]) ∨ (pushL acc L = acc ++ [L] ∧ ∀ A w n v m, acc = A ++ [.con w n] → L = .con v m → w ≠ v) := by
  unfold pushL
  rcases List.eq_nil_or_concat acc with e | ⟨A, B, e⟩
  · subst e
    exact .inr ⟨rfl, fun A w n v m z => absurd z (by simp)⟩
  · rw [List.concat_eq_append] at e
    subst e
    rw [List.getLast?_append, List.getLast?_singleton, Option.some_or]
    cases B with
    | pol ns => exact .inr ⟨rfl, fun A' w n v m z => by have := (List.append_inj' z rfl).2; cases this⟩
    | con w n =>
      cases L with
      | pol ms => exact .inr ⟨rfl, fun A' w n v m z z2 => by cases z2⟩
      | con v m =>
        by_cases c : w = v
        · subst c
          exact .inl ⟨A, w, n, m, rfl, rfl, by rw [List.dropLast_concat]; exact if_pos rfl⟩
        · refine .inr ⟨if_neg c, fun A' w' n' v' m' z z2 => ?_⟩
          have := (List.append_inj' z rfl).2
          cases this
          cases z2
          exact c
theorem push_ok {acc : List Lay} {L : Lay} (h : NF acc) (hL : L.nf) : NF (pushL acc L) ∧ flatL (pushL acc L) = nestL (flatL acc) L.waits := by
  rcases push_cases acc L with ⟨A, w, n, m, rfl, rfl, e⟩ | ⟨e, hne⟩
  · rw [e]
    have hc := h.1 (.con w n) (List.mem_append_right _ List.mem_cons_self)
    have n2 : 2 ≤ n := hc.2
    have m2 : 2 ≤ m := hL.2
    have nm : 2 * 2 ≤ n * m := Int.mul_le_mul n2 m2 (by decide) (by omega)
    have g : (Lay.con w (n * m)).nf := ⟨hc.1, by omega⟩
    have hA : ∀ M ∈ A, M.nf := fun M hM => h.1 M (List.mem_append_left _ hM)
    refine ⟨⟨fun M hM => ?_, fun i v k v' k' a b => ?_⟩, ?_⟩
    · rcases List.mem_append.mp hM with z | z
      · exact hA M z
      · rw [List.mem_singleton.mp z]; exact g
    · have hi : i + 1 < (A ++ [Lay.con w (n * m)]).length := (List.getElem?_eq_some_iff.mp b).1
      rw [List.length_append, List.length_singleton] at hi
      rw [List.getElem?_append_left (by omega)] at a
      by_cases hj : i + 1 < A.length
      · rw [List.getElem?_append_left hj] at b
        exact h.2 i v k v' k' (by rw [List.getElem?_append_left (by omega)]; exact a) (by rw [List.getElem?_append_left hj]; exact b)
      · have ej : i + 1 = A.length := by omega
        rw [List.getElem?_append_right (by omega), ej, Nat.sub_self] at b
        cases b
        exact h.2 i v k w n (by rw [List.getElem?_append_left (by omega)]; exact a) (by rw [List.getElem?_append_right (by omega), ej, Nat.sub_self]; rfl)
    · rw [flatF (fun M hM => (hA M hM).ok) _ g.ok, flatF (fun M hM => (hA M hM).ok) _ hc.ok, nestL_assoc]
      congr 1
      show List.replicate (n * m - 1).toNat w = nestL (List.replicate (n - 1).toNat w) (List.replicate (m - 1).toNat w)
      rw [nest_rep, show (n - 1).toNat + 1 = n.toNat by omega, show (m - 1).toNat + 1 = m.toNat by omega, ← Int.toNat_mul (by omega) (by omega)]
      congr 1
      omega
  · rw [e]
    refine ⟨⟨fun M hM => ?_, fun i v k v' k' a b => ?_⟩, flatF h.oks L hL.ok⟩
    · rcases List.mem_append.mp hM with z | z
      · exact h.1 M z
      · rw [List.mem_singleton.mp z]; exact hL
    · have hi : i + 1 < (acc ++ [L]).length := (List.getElem?_eq_some_iff.mp b).1
      rw [List.length_append, List.length_singleton] at hi
      rw [List.getElem?_append_left (by omega)] at a
      by_cases hj : i + 1 < acc.length
      · rw [List.getElem?_append_left hj] at b
        exact h.2 i v k v' k' a b
      · have ej : i + 1 = acc.length := by omega
        rw [List.getElem?_append_right (by omega), ej, Nat.sub_self] at b
        have b : some L = some (Lay.con v' k') := b
        have hA : acc = acc.dropLast ++ [Lay.con v k] := by
          have hne2 : acc ≠ [] := fun z => by rw [z] at ej; simp at ej
          have h1 := (List.dropLast_concat_getLast hne2).symm
          have h2 : acc.getLast hne2 = Lay.con v k := by
            have h3 : acc[acc.length - 1]? = some (acc.getLast hne2) := by rw [← List.getLast?_eq_getElem?, List.getLast?_eq_some_getLast hne2]
            rw [show acc.length - 1 = i by omega, a] at h3
            exact (Option.some.inj h3).symm
          rw [h2] at h1
          exact h1
        exact hne _ v k v' k' hA (Option.some.inj b)
theorem merge_from : ∀ (ls : List Lay) {acc : List Lay}, NF acc → (∀ L ∈ ls, L.nf) → NF (ls.foldl pushL acc) ∧ flatL (ls.foldl pushL acc) = ls.foldl (fun a L => nestL a L.waits) (flatL acc)
  | [], acc, h, _ => ⟨h, rfl⟩
  | L :: ls, acc, h, hl => by
    obtain ⟨p1, p2⟩ := push_ok h (hl L List.mem_cons_self)
    obtain ⟨q1, q2⟩ := merge_from ls p1 fun M hM => hl M (List.mem_cons_of_mem _ hM)
    exact ⟨q1, by rw [List.foldl_cons, q2, p2, List.foldl_cons]⟩
theorem merge_ok {ls : List Lay} (h : ∀ L ∈ ls, L.nf) : NF (mergeL ls) ∧ flatL (mergeL ls) = flatL ls := by
  have h0 : NF ([] : List Lay) := ⟨(fun _ z => nomatch z), fun i w n w' m a => by cases a⟩
  obtain ⟨p1, p2⟩ := merge_from ls h0 h
  refine ⟨p1, ?_⟩
  rw [flatL_fold fun L hL => (h L hL).ok]
  exact p2
/-! ## rules of the written part; comprehensions with two for -/
theorem pi_listK {X : Cx} {K : PySem.W.Frag} (h : X.K = K) {tg l : Expr} {tl : TE} (hl : PE X l tl) : PI X tg l (iList K tl) := by subst h; exact pi_list hl
/-- the inner for, over a list that stands still -/
theorem in_list {K : PySem.W.Frag} {b : Addr} {ys : List V} {g1 : TG} {tt1 : TT} {te : TE} {vs1 : List Nat} {σ2 : L2.St} {H4 : Hp} {D : Addr} {Nx : Hp → Prop} (Pw : Nat → Hp → Prop) (h0 : Pw 0 H4) (hl : ∀ j H, j ≤ ys.length → Pw j H → SqL K H b ys)
    (hs : ∀ j y H, ys[j]? = some y → Pw j H → g1 y (wipe σ2 vs1) H fun σ3 H5 => wipe σ3 vs1 = wipe σ2 vs1 ∧ tt1 σ3 H5 fun c H6 => if c = true then te σ3 H6 fun v H7 => ∃ acc, H7 D = some (.lst acc) ∧ acc.length < sizeLine ∧ Pw (j + 1) (upd H7 D (.lst (acc ++ [v]))) else Pw (j + 1) H6)
    (hd : ∀ H, Pw ys.length H → Nx H) :
    ∃ W1 : Nat → Nat → Hp → Prop, (∃ m, W1 0 m H4) ∧ ∀ j k H, W1 j k H →
      ((Itl K b).stop j H ∧ Nx H) ∨ ((Itl K b).go j H ∧ ∃ Nx1 : Hp → Prop, (∀ H', Nx1 H' → ∃ k', k' < k ∧ W1 (j + 1) k' H') ∧ ∀ x H', (Itl K b).yld j H x H' → g1 x (wipe σ2 vs1) H' fun σ3 H5 => wipe σ3 vs1 = wipe σ2 vs1 ∧ tt1 σ3 H5 fun c H6 =>
        if c = true then te σ3 H6 fun y H7 => ∃ acc, H7 D = some (.lst acc) ∧ acc.length < sizeLine ∧ Nx1 (upd H7 D (.lst (acc ++ [y]))) else Nx1 H6) := by
  refine ⟨fun i m H => m = ys.length - i ∧ i ≤ ys.length ∧ Pw i H, ⟨ys.length, by simp, Nat.zero_le _, h0⟩, ?_⟩
  rintro i m H ⟨rfl, hi, p⟩
  have q := hl i H hi p
  by_cases hlt : i < ys.length
  · refine .inr ⟨⟨ys, ys[i], q, by simp [hlt]⟩, Pw (i + 1), fun H' p' => ⟨ys.length - (i + 1), by omega, rfl, hlt, p'⟩, fun x H' y => ?_⟩
    obtain ⟨e, y⟩ := y
    subst e
    exact hs i x _ (y ys q) p
  · have e : i = ys.length := by omega
    subst e
    exact .inl ⟨⟨ys, q, Nat.le_refl _⟩, hd H p⟩
/-- the outer for -/
theorem out_list {K : PySem.W.Frag} {a : Addr} {xs : List V} {vs : List Nat} {σ : L2.St} {H1 : Hp} {D : Addr} {Qd : Hp → Prop} {B : V → Hp → (Hp → Prop) → Prop} (Pv : Nat → Hp → Prop) (h0 : Pv 0 (upd H1 D (.lst []))) (hl : ∀ i H, i ≤ xs.length → Pv i H → SqL K H a xs)
    (hs : ∀ i x H, xs[i]? = some x → Pv i H → B x H (Pv (i + 1))) (hd : ∀ H, Pv xs.length H → Qd H) :
    ∃ W : Nat → Nat → Hp → Prop, (∃ m, W 0 m (upd H1 D (.lst []))) ∧ ∀ i m H, W i m H →
      ((Itl K a).stop i H ∧ Qd H) ∨ ((Itl K a).go i H ∧ ∃ Nx : Hp → Prop, (∀ H', Nx H' → ∃ m', m' < m ∧ W (i + 1) m' H') ∧ ∀ x H', (Itl K a).yld i H x H' → B x H' Nx) := by
  refine ⟨fun i m H => m = xs.length - i ∧ i ≤ xs.length ∧ Pv i H, ⟨xs.length, by simp, Nat.zero_le _, h0⟩, ?_⟩
  rintro i m H ⟨rfl, hi, p⟩
  have q := hl i H hi p
  by_cases hlt : i < xs.length
  · refine .inr ⟨⟨xs, xs[i], q, by simp [hlt]⟩, Pv (i + 1), fun H' p' => ⟨xs.length - (i + 1), by omega, rfl, hlt, p'⟩, fun x H' y => ?_⟩
    obtain ⟨e, y⟩ := y
    subst e
    exact hs i x _ (y xs q) p
  · have e : i = xs.length := by omega
    subst e
    exact .inl ⟨⟨xs, q, Nat.le_refl _⟩, hd H p⟩
end Rn
namespace Rn
open PySem PySem.Spec PyProof.Rows L2
abbrev N0 : Hp := fun _ => none
theorem flat_app : ∀ {As Bs : List Lay}, (∀ L ∈ As, L.ok = true) → (∀ L ∈ Bs, L.ok = true) → flatL (As ++ Bs) = nestL (flatL As) (flatL Bs)
  | [], Bs, _, _ => by
    show flatL Bs = nestL [] (flatL Bs)
    rw [nil_nestL]
  | A :: As, Bs, h, h2 => by
    have h3 : ∀ L ∈ A :: (As ++ Bs), L.ok = true := fun L hL => by
      rcases List.mem_cons.mp hL with e | e
      · exact h L (e ▸ List.mem_cons_self)
      · rcases List.mem_append.mp e with z | z
        · exact h L (List.mem_cons_of_mem _ z)
        · exact h2 L z
    show flatL (A :: (As ++ Bs)) = _
    rw [flatL_cons h3, flatL_cons h, flat_app (fun L hL => h L (List.mem_cons_of_mem _ hL)) h2, nestL_assoc]
def sameC : Lay → Lay → Bool
  | .con w _, .con v _ => decide (w = v)
  | _, _ => false
theorem NestV.swap {H0 G : Hp} {p t : Addr} {us : List V} {u : V} {A : List Lay} {B C : Lay} (h : NestV H0 G p (us ++ [u]) (A ++ [B])) (hx : LayAt G (.ref t) C) (ne : t ≠ p) (fr : H0 t = none) :
    NestV H0 (upd G p (.lst (us ++ [.ref t]))) p (us ++ [.ref t]) (A ++ [C]) := by
  obtain ⟨h1, h2, h3, h4⟩ := h
  have hl : us.length = A.length := by
    rw [List.length_append, List.length_append] at h2
    exact Nat.succ.inj h2
  refine ⟨upd_same, by rw [List.length_append, List.length_append, hl]; rfl, fun i v M a b => ?_, fun y hy => ?_⟩
  · by_cases hi : i < us.length
    · rw [List.getElem?_append_left hi] at a
      rw [List.getElem?_append_left (by omega)] at b
      exact (h3 i v M (by rw [List.getElem?_append_left hi]; exact a) (by rw [List.getElem?_append_left (by omega)]; exact b)).keep fun y e => (h4 y (List.mem_append_left _ (e ▸ List.mem_of_getElem? a))).1
    · rw [List.getElem?_append_right (by omega)] at a
      rw [List.getElem?_append_right (by omega), ← hl] at b
      generalize i - us.length = k at *
      cases k with
      | zero =>
        cases a
        cases b
        exact hx.keep fun y e => by cases e; exact ne
      | succ k => cases a
  · rcases List.mem_append.mp hy with z | z
    · exact h4 y (List.mem_append_left _ z)
    · have := List.mem_singleton.mp z
      cases this
      exact ⟨ne, fr⟩
theorem ixN_last {n : Nat} (h : 0 < n) : ixN n (-1) = some (n - 1) := by
  unfold ixN
  rw [if_neg (by decide)]
  first
    | (rw [if_pos (by omega)]; congr 1; omega)
    | (simp; omega)
theorem set_last {α : Type} (us : List α) (u x : α) : (us ++ [u]).set ((us ++ [u]).length - 1) x = us ++ [x] := by
  rw [List.length_append, List.length_singleton, Nat.add_sub_cancel, List.set_append_right _ _ (Nat.le_refl _), Nat.sub_self]
  rfl
end Rn

set_option Elab.async false
set_option linter.all false
set_option maxRecDepth 100000
set_option maxHeartbeats 4000000
namespace Rn
open PySem PySem.Spec PyProof.Rows L2
/-! ## counting: divisors, the numbers of policies whose normal form begins in a certain way -/
def pds (n : Nat) : List Nat := (List.range n).filter fun d => decide (1 ≤ d) && decide (n % d = 0)
def dvs (n : Nat) : List Nat := (List.range (n + 1)).filter fun d => decide (1 ≤ d) && decide (n % d = 0)
def cI (ds : List Nat) : List Int := ds.map fun d : Nat => (d : Int)
theorem mem_pds {n d : Nat} : d ∈ pds n ↔ d < n ∧ 1 ≤ d ∧ n % d = 0 := by
  unfold pds
  rw [List.mem_filter, List.mem_range, Bool.and_eq_true, decide_eq_true_eq, decide_eq_true_eq]
theorem mem_dvs {n d : Nat} : d ∈ dvs n ↔ d ≤ n ∧ 1 ≤ d ∧ n % d = 0 := by
  unfold dvs
  rw [List.mem_filter, List.mem_range, Bool.and_eq_true, decide_eq_true_eq, decide_eq_true_eq, Nat.lt_succ_iff]
theorem dvs_eq {n : Nat} (h : 1 ≤ n) : dvs n = pds n ++ [n] := by
  unfold dvs pds
  rw [List.range_succ, List.filter_append, List.filter_cons, if_pos (by rw [Bool.and_eq_true, decide_eq_true_eq, decide_eq_true_eq]; exact ⟨h, Nat.mod_self n⟩), List.filter_nil]
theorem dvs_one {n : Nat} (h : 1 ≤ n) : ∃ r, dvs n = 1 :: r := by
  obtain ⟨m, rfl⟩ : ∃ m, n = m + 1 := ⟨n - 1, by omega⟩
  unfold dvs
  rw [List.range_succ_eq_map, List.filter_cons, if_neg (by simp), List.range_succ_eq_map, List.map_cons, List.filter_cons, if_pos (by simp [Nat.mod_one])]
  exact ⟨_, rfl⟩
theorem dvs_len (n : Nat) : (dvs n).length ≤ n + 1 := by
  unfold dvs
  refine Nat.le_trans (List.length_filter_le _ _) ?_
  rw [List.length_range]
  exact Nat.le_refl _
theorem pds_len (n : Nat) : (pds n).length ≤ n := by
  unfold pds
  refine Nat.le_trans (List.length_filter_le _ _) ?_
  rw [List.length_range]
  exact Nat.le_refl _
theorem range_lt (n m : Nat) (h : m ≤ n) : (List.range n).filter (fun d => decide (d < m)) = List.range m := by
  induction n with
  | zero =>
    have : m = 0 := by omega
    subst this
    rfl
  | succ n ih =>
    rw [List.range_succ, List.filter_append, List.filter_cons, List.filter_nil]
    by_cases e : m = n + 1
    · subst e
      rw [if_pos (decide_eq_true (by omega)), List.filter_eq_self.mpr fun x hx => decide_eq_true (by have := List.mem_range.mp hx; omega), List.range_succ]
    · rw [if_neg (by rw [decide_eq_true_eq]; omega), List.append_nil]
      exact ih (by omega)
/-- the proper divisors of a divisor stand among the divisors -/
theorem dvs_pds {n m : Nat} (h : m ∈ dvs n) : (dvs n).filter (fun d => decide (d < m) && decide (m % d = 0)) = pds m := by
  obtain ⟨h1, h2, h3⟩ := mem_dvs.mp h
  unfold dvs pds
  rw [← range_lt (n + 1) m (by omega), List.filter_filter, List.filter_filter]
  congr 1
  funext d
  rw [Bool.eq_iff_iff]
  simp only [Bool.and_eq_true, decide_eq_true_eq]
  constructor
  · rintro ⟨⟨a, b⟩, c, d⟩
    exact ⟨⟨c, b⟩, a⟩
  · rintro ⟨⟨c, b⟩, a⟩
    refine ⟨⟨a, b⟩, c, ?_⟩
    have z1 : d ∣ m := Nat.dvd_of_mod_eq_zero b
    have z2 : m ∣ n := Nat.dvd_of_mod_eq_zero h3
    exact Nat.mod_eq_zero_of_dvd (Nat.dvd_trans z1 z2)
def othG (k : Int) : Nat → Nat → Int
  | 0, _ => 0
  | f + 1, n => k ^ (n - 1) - ((pds n).map (othG k f)).sum
def othF (k : Int) (n : Nat) : Int := othG k n n
theorem oth_same (k : Int) : ∀ n f, 1 ≤ n → n ≤ f → othG k f n = othF k n := by
  intro n
  induction n using Nat.strongRecOn with
  | _ n ih =>
    intro f h1 h2
    obtain ⟨g, rfl⟩ : ∃ g, f = g + 1 := ⟨f - 1, by omega⟩
    obtain ⟨m, rfl⟩ : ∃ m, n = m + 1 := ⟨n - 1, by omega⟩
    unfold othF othG
    congr 2
    refine List.map_congr_left fun d hd => ?_
    obtain ⟨d1, d2, _⟩ := mem_pds.mp hd
    rw [ih d d1 g d2 (by omega), ih d d1 m d2 (by omega)]
theorem oth_eq (k : Int) {n : Nat} (h : 1 ≤ n) : othF k n = k ^ (n - 1) - ((pds n).map (othF k)).sum := by
  obtain ⟨m, rfl⟩ : ∃ m, n = m + 1 := ⟨n - 1, by omega⟩
  show othG k (m + 1) (m + 1) = _
  unfold othG
  congr 2
  refine List.map_congr_left fun d hd => ?_
  obtain ⟨d1, d2, _⟩ := mem_pds.mp hd
  exact oth_same k d m d2 (by omega)
theorem oth_one (k : Int) : othF k 1 = 1 := by
  rw [oth_eq k (Nat.le_refl 1), show pds 1 = [] by decide]
  simp
def lstG (k : Int) : Nat → Nat → Int
  | 0, _ => 0
  | f + 1, n => if n ≤ 1 then 0 else k ^ (n - 1) - k * (k ^ (n - 1) - othF k n) - ((pds n).map fun d => lstG k f d * k ^ (n / d - 1)).sum
def lstF (k : Int) (n : Nat) : Int := lstG k n n
theorem lst_same (k : Int) : ∀ n f, 1 ≤ n → n ≤ f → lstG k f n = lstF k n := by
  intro n
  induction n using Nat.strongRecOn with
  | _ n ih =>
    intro f h1 h2
    obtain ⟨g, rfl⟩ : ∃ g, f = g + 1 := ⟨f - 1, by omega⟩
    obtain ⟨m, rfl⟩ : ∃ m, n = m + 1 := ⟨n - 1, by omega⟩
    unfold lstF lstG
    split
    · rfl
    · congr 2
      refine List.map_congr_left fun d hd => ?_
      obtain ⟨d1, d2, _⟩ := mem_pds.mp hd
      rw [ih d d1 g d2 (by omega), ih d d1 m d2 (by omega)]
theorem lst_one (k : Int) : lstF k 1 = 0 := rfl
theorem lst_eq (k : Int) {n : Nat} (h : 2 ≤ n) : lstF k n = k ^ (n - 1) - k * (k ^ (n - 1) - othF k n) - ((pds n).map fun d => lstF k d * k ^ (n / d - 1)).sum := by
  obtain ⟨m, rfl⟩ : ∃ m, n = m + 1 := ⟨n - 1, by omega⟩
  show lstG k (m + 1) (m + 1) = _
  unfold lstG
  rw [if_neg (by omega)]
  congr 2
  refine List.map_congr_left fun d hd => ?_
  obtain ⟨d1, d2, _⟩ := mem_pds.mp hd
  rw [lst_same k d m d2 (by omega)]
/-- what count_unsplittable gives -/
def cntF (k : Int) (n : Nat) : Int := lstF k n + (if (dvs n).length = 2 then k else 0)
/-! bounds -/
theorem sum_abs : ∀ (xs : List Int) (B : Nat), (∀ x ∈ xs, x.natAbs ≤ B) → xs.sum.natAbs ≤ xs.length * B
  | [], _, _ => by simp
  | x :: xs, B, h => by
    have h1 := h x List.mem_cons_self
    have h2 := sum_abs xs B fun y hy => h y (List.mem_cons_of_mem _ hy)
    rw [List.sum_cons, List.length_cons, Nat.succ_mul]
    have := Int.natAbs_add_le x xs.sum
    omega
theorem pow_abs {k : Int} {n e : Nat} (hk : k.natAbs ≤ 2 ^ e) : (k ^ n).natAbs ≤ 2 ^ (e * n) := by
  rw [Int.natAbs_pow, Nat.pow_mul]
  exact Nat.pow_le_pow_left hk n
theorem le_two_pow (n : Nat) : n ≤ 2 ^ n := Nat.le_of_lt Nat.lt_two_pow_self
theorem oth_abs {k : Int} (hk : k.natAbs ≤ 2 ^ 7) : ∀ n, 1 ≤ n → n ≤ 200 → (othF k n).natAbs ≤ 2 ^ (16 * n) := by
  intro n
  induction n using Nat.strongRecOn with
  | _ n ih =>
    intro h1 h2
    rw [oth_eq k h1]
    obtain ⟨m, rfl⟩ : ∃ m, n = m + 1 := ⟨n - 1, by omega⟩
    rw [show m + 1 - 1 = m by omega]
    have p1 := pow_abs (n := m) hk
    have s1 := sum_abs ((pds (m + 1)).map (othF k)) (2 ^ (16 * m)) fun x hx => by
      obtain ⟨d, hd, rfl⟩ := List.mem_map.mp hx
      obtain ⟨d1, d2, _⟩ := mem_pds.mp hd
      exact Nat.le_trans (ih d d1 d2 (by omega)) (Nat.pow_le_pow_right (by decide) (by omega))
    rw [List.length_map] at s1
    have l1 := pds_len (m + 1)
    have s2 : (pds (m + 1)).length * 2 ^ (16 * m) ≤ 2 ^ 8 * 2 ^ (16 * m) := Nat.mul_le_mul_right _ (by omega)
    have a1 := Int.natAbs_sub_le (k ^ m) ((pds (m + 1)).map (othF k)).sum
    have b1 : 2 ^ (7 * m) ≤ 2 ^ (16 * m) := Nat.pow_le_pow_right (by decide) (by omega)
    rw [show 16 * (m + 1) = 16 * m + 16 by omega, Nat.pow_add]
    generalize 2 ^ (16 * m) = B at *
    omega
theorem prop_div {n d : Nat} (h : d ∈ pds n) : d * 2 ≤ n ∧ n / d ≤ n ∧ 1 ≤ n / d := by
  obtain ⟨h1, h2, h3⟩ := mem_pds.mp h
  have e := Nat.div_add_mod n d
  rw [h3, Nat.add_zero] at e
  have hle := Nat.div_le_self n d
  have h4 : 2 ≤ n / d := by
    rcases Nat.lt_or_ge (n / d) 2 with z | z
    · exfalso
      have : n / d = 0 ∨ n / d = 1 := by generalize n / d = q at z; omega
      rcases this with y | y
      · rw [y, Nat.mul_zero] at e
        exact absurd h1 (by rw [← e]; exact Nat.not_lt_zero d)
      · rw [y, Nat.mul_one] at e
        exact absurd h1 (by rw [e]; exact Nat.lt_irrefl n)
    · exact z
  have h5 : d * 2 ≤ d * (n / d) := Nat.mul_le_mul_left _ h4
  exact ⟨by rw [e] at h5; exact h5, hle, Nat.le_trans (by decide) h4⟩
theorem lst_abs {k : Int} (hk : k.natAbs ≤ 2 ^ 7) : ∀ n, 1 ≤ n → n ≤ 200 → (lstF k n).natAbs ≤ 2 ^ (32 * n) := by
  intro n
  induction n using Nat.strongRecOn with
  | _ n ih =>
    intro h1 h2
    by_cases e : n = 1
    · subst e
      rw [lst_one]
      exact Nat.zero_le _
    rw [lst_eq k (by omega)]
    have p1 := pow_abs (n := n - 1) hk
    have o1 := oth_abs hk n h1 h2
    have s1 := sum_abs ((pds n).map fun d => lstF k d * k ^ (n / d - 1)) (2 ^ (23 * n)) fun x hx => by
      obtain ⟨d, hd, rfl⟩ := List.mem_map.mp hx
      obtain ⟨d1, d2, _⟩ := mem_pds.mp hd
      obtain ⟨q1, q2, q3⟩ := prop_div hd
      have i1 := ih d d1 d2 (by omega)
      have i2 := pow_abs (n := n / d - 1) hk
      rw [Int.natAbs_mul]
      refine Nat.le_trans (Nat.mul_le_mul i1 i2) ?_
      rw [← Nat.pow_add]
      exact Nat.pow_le_pow_right (by decide) (by omega)
    rw [List.length_map] at s1
    have l1 := pds_len n
    have s2 : (pds n).length * 2 ^ (23 * n) ≤ 2 ^ 8 * 2 ^ (23 * n) := Nat.mul_le_mul_right _ (by omega)
    have a0 := Int.natAbs_sub_le (k ^ (n - 1)) (othF k n)
    have a1 : (k * (k ^ (n - 1) - othF k n)).natAbs ≤ 2 ^ 7 * (k ^ (n - 1) - othF k n).natAbs := by
      rw [Int.natAbs_mul]
      exact Nat.mul_le_mul_right _ hk
    have a2 := Int.natAbs_sub_le (k ^ (n - 1)) (k * (k ^ (n - 1) - othF k n))
    have a3 := Int.natAbs_sub_le (k ^ (n - 1) - k * (k ^ (n - 1) - othF k n)) ((pds n).map fun d => lstF k d * k ^ (n / d - 1)).sum
    have b1 : 2 ^ (7 * (n - 1)) ≤ 2 ^ (23 * n) := Nat.pow_le_pow_right (by decide) (by omega)
    have b2 : 2 ^ (16 * n) ≤ 2 ^ (23 * n) := Nat.pow_le_pow_right (by decide) (by omega)
    have b3 : 2 ^ 18 * 2 ^ (23 * n) ≤ 2 ^ (32 * n) := by
      rw [← Nat.pow_add]
      exact Nat.pow_le_pow_right (by decide) (by omega)
    generalize 2 ^ (23 * n) = B at *
    generalize 2 ^ (32 * n) = C at *
    generalize k ^ (n - 1) = x at *
    generalize othF k n = y at *
    generalize ((pds n).map fun d => lstF k d * k ^ (n / d - 1)).sum = z at *
    generalize k * (x - y) = u at *
    omega
theorem cI_get {ds : List Nat} {i : Nat} {x : V} (h : ((cI ds).map V.int)[i]? = some x) : ∃ d, ds[i]? = some d ∧ x = .int (d : Int) := by
  unfold cI at h
  rw [List.getElem?_map, List.getElem?_map] at h
  cases e : ds[i]? with
  | none => rw [e] at h; cases h
  | some d => rw [e] at h; exact ⟨d, rfl, (Option.some.inj h).symm⟩
theorem cI_len (ds : List Nat) : ((cI ds).map V.int).length = ds.length := by
  unfold cI
  rw [List.length_map, List.length_map]
/-- a dict of ints that gives F at each of the numbers ds -/
def Tab (kvs : List (Key × V)) (ds : List Nat) (F : Nat → Int) : Prop := ∀ d ∈ ds, valV kvs (Sum.inl (d : Int)) = some (.int (F d))
theorem Tab.put {kvs : List (Key × V)} {ds : List Nat} {F : Nat → Int} {d : Nat} (h : Tab kvs ds F) : Tab (putK kvs (Sum.inl (d : Int)) (.int (F d))) (ds ++ [d]) F := fun e he => by
  rw [valV_put]
  by_cases z : e = d
  · subst z
    rw [if_pos rfl]
  · rw [if_neg (fun y => z (by injection y with y; exact Int.ofNat.inj y))]
    rcases List.mem_append.mp he with m | m
    · exact h e m
    · exact absurd (List.mem_singleton.mp m) z
theorem Tab.get {H : Hp} {a : Addr} {kvs : List (Key × V)} {ds : List Nat} {F : Nat → Int} {d : Nat} (t : Tab kvs ds F) (h : H a = some (.dK kvs)) (hd : d ∈ ds) : DGet H a (.int (d : Int)) (some (.int (F d))) := by
  have := DGet.k (k := Sum.inl (d : Int)) h
  rw [t d hd] at this
  exact this
end Rn

set_option Elab.async false
set_option linter.all false
set_option maxRecDepth 100000
set_option maxHeartbeats 4000000
namespace Rn
open PySem PySem.Spec PyProof.Rows L2
/-! ## numbers of unsplittable policies: primes, products of two, squares, cubes; all policies -/
theorem perm_sum {xs ys : List Int} (h : xs.Perm ys) : xs.sum = ys.sum := by
  induction h with
  | nil => rfl
  | cons x _ ih => rw [List.sum_cons, List.sum_cons, ih]
  | swap x y l => rw [List.sum_cons, List.sum_cons, List.sum_cons, List.sum_cons]; omega
  | trans _ _ a b => rw [a, b]
theorem oth_of {k : Int} {n : Nat} {ds : List Nat} (h : 1 ≤ n) (e : (pds n).Perm ds) : othF k n = k ^ (n - 1) - (ds.map (othF k)).sum := by
  rw [oth_eq k h, perm_sum (e.map (othF k))]
theorem lst_of {k : Int} {n : Nat} {ds : List Nat} (h : 2 ≤ n) (e : (pds n).Perm ds) : lstF k n = k ^ (n - 1) - k * (k ^ (n - 1) - othF k n) - (ds.map fun d => lstF k d * k ^ (n / d - 1)).sum := by
  rw [lst_eq k h, perm_sum (e.map fun d => lstF k d * k ^ (n / d - 1))]
def Prm (p : Nat) : Prop := 2 ≤ p ∧ (pds p).Perm [1]
theorem Prm.cnt2 {p : Nat} (h : Prm p) : (dvs p).length = 2 := by
  rw [dvs_eq (by have := h.1; omega), List.length_append, h.2.length_eq]
  rfl
theorem oth_p {k : Int} {p : Nat} (h : Prm p) : othF k p = k ^ (p - 1) - 1 := by
  rw [oth_of (by have := h.1; omega) h.2]
  simp [oth_one]
theorem lst_p {k : Int} {p : Nat} (h : Prm p) : lstF k p = k ^ (p - 1) - k := by
  rw [lst_of h.1 h.2, oth_p h]
  simp [lst_one]
  rw [show k ^ (p - 1) - (k ^ (p - 1) - 1) = 1 by omega, Int.mul_one]
theorem cnt_p {k : Int} {p : Nat} (h : Prm p) : cntF k p = k ^ (p - 1) := by
  unfold cntF
  rw [if_pos h.cnt2, lst_p h]
  omega
theorem cnt_comp {k : Int} {n : Nat} {ds : List Nat} (h : 2 ≤ n) (e : (pds n).Perm ds) (h3 : ds.length ≠ 1) : cntF k n = lstF k n := by
  unfold cntF
  rw [if_neg, Int.add_zero]
  rw [dvs_eq (by omega), List.length_append, e.length_eq]
  show ds.length + 1 ≠ 2
  omega
theorem pow_mul_one (k : Int) {n : Nat} (h : 1 ≤ n) : k * k ^ (n - 1) = k ^ n := by
  obtain ⟨m, rfl⟩ : ∃ m, n = m + 1 := ⟨n - 1, by omega⟩
  rw [Nat.add_sub_cancel, Int.pow_succ, Int.mul_comm]
theorem cnt_pq {k : Int} {p q : Nat} (hp : Prm p) (hq : Prm q) (e : (pds (p * q)).Perm [1, p, q]) : cntF k (p * q) = k ^ (p * q - 1) - 2 * k ^ (p + q - 2) + k := by
  have p2 := hp.1
  have q2 := hq.1
  have hn : 2 * 2 ≤ p * q := Nat.mul_le_mul p2 q2
  rw [cnt_comp (by omega) e (by show 3 ≠ 1; decide), lst_of (by omega) e, oth_of (by omega) e]
  simp only [List.map_cons, List.map_nil, List.sum_cons, List.sum_nil, oth_one, lst_one, oth_p hp, oth_p hq, lst_p hp, lst_p hq]
  rw [Nat.mul_div_cancel_left q (by omega), Nat.mul_div_cancel p (by omega)]
  have e1 : k ^ (p - 1) * k ^ (q - 1) = k ^ (p + q - 2) := by
    rw [← Int.pow_add]
    congr 1
    omega
  have e2 : k ^ (q - 1) * k ^ (p - 1) = k ^ (p + q - 2) := by rw [Int.mul_comm, e1]
  rw [Int.sub_mul, Int.sub_mul, e1, e2, pow_mul_one k (by omega), pow_mul_one k (by omega)]
  have e3 : k * (k ^ (p * q - 1) - (k ^ (p * q - 1) - (1 + (k ^ (p - 1) - 1 + (k ^ (q - 1) - 1 + 0))))) = k ^ p + k ^ q - k := by
    rw [show k ^ (p * q - 1) - (k ^ (p * q - 1) - (1 + (k ^ (p - 1) - 1 + (k ^ (q - 1) - 1 + 0)))) = k ^ (p - 1) + k ^ (q - 1) - 1 by omega, Int.mul_sub, Int.mul_add, pow_mul_one k (by omega), pow_mul_one k (by omega), Int.mul_one]
  rw [e3]
  omega
theorem cnt_pp {k : Int} {p : Nat} (hp : Prm p) (e : (pds (p * p)).Perm [1, p]) : cntF k (p * p) = k ^ (p * p - 1) - k ^ (2 * p - 2) := by
  have p2 := hp.1
  have hn : 2 * 2 ≤ p * p := Nat.mul_le_mul p2 p2
  rw [cnt_comp (by omega) e (by show 2 ≠ 1; decide), lst_of (by omega) e, oth_of (by omega) e]
  simp only [List.map_cons, List.map_nil, List.sum_cons, List.sum_nil, oth_one, lst_one, oth_p hp, lst_p hp]
  rw [Nat.mul_div_cancel p (by omega)]
  have e1 : k ^ (p - 1) * k ^ (p - 1) = k ^ (2 * p - 2) := by
    rw [← Int.pow_add]
    congr 1
    omega
  rw [Int.sub_mul, e1, pow_mul_one k (by omega), show k ^ (p * p - 1) - (k ^ (p * p - 1) - (1 + (k ^ (p - 1) - 1 + 0))) = k ^ (p - 1) by omega, pow_mul_one k (by omega)]
  omega
theorem oth_pp {k : Int} {p : Nat} (hp : Prm p) (e : (pds (p * p)).Perm [1, p]) : othF k (p * p) = k ^ (p * p - 1) - k ^ (p - 1) := by
  have p2 := hp.1
  have hn : 2 * 2 ≤ p * p := Nat.mul_le_mul p2 p2
  rw [oth_of (by omega) e]
  simp only [List.map_cons, List.map_nil, List.sum_cons, List.sum_nil, oth_one, oth_p hp]
  omega
theorem cnt_ppp {k : Int} {p : Nat} (hp : Prm p) (e2 : (pds (p * p)).Perm [1, p]) (e : (pds (p * p * p)).Perm [1, p, p * p]) : cntF k (p * p * p) = k ^ (p * p * p - 1) - (2 * k ^ (p + p * p - 2) - k ^ (3 * p - 3)) := by
  have p2 := hp.1
  have hn : 2 * 2 ≤ p * p := Nat.mul_le_mul p2 p2
  have hm : 4 * 2 ≤ p * p * p := Nat.mul_le_mul hn p2
  have l2 : lstF k (p * p) = k ^ (p * p - 1) - k ^ (2 * p - 2) := by
    rw [← cnt_comp (by omega) e2 (by show 2 ≠ 1; decide), cnt_pp hp e2]
  rw [cnt_comp (by omega) e (by show 3 ≠ 1; decide), lst_of (by omega) e, oth_of (by omega) e]
  simp only [List.map_cons, List.map_nil, List.sum_cons, List.sum_nil, oth_one, lst_one, oth_p hp, lst_p hp, oth_pp hp e2, l2]
  rw [Nat.mul_div_cancel_left p (by omega), show p * p * p / p = p * p by rw [Nat.mul_div_cancel _ (by omega)]]
  have a1 : k ^ (p - 1) * k ^ (p * p - 1) = k ^ (p + p * p - 2) := by
    rw [← Int.pow_add]
    congr 1
    omega
  have a2 : k ^ (p * p - 1) * k ^ (p - 1) = k ^ (p + p * p - 2) := by rw [Int.mul_comm, a1]
  have a3 : k ^ (2 * p - 2) * k ^ (p - 1) = k ^ (3 * p - 3) := by
    rw [← Int.pow_add]
    congr 1
    omega
  rw [Int.sub_mul, Int.sub_mul, a1, a2, a3, pow_mul_one k (by omega), show k ^ (p * p * p - 1) - (k ^ (p * p * p - 1) - (1 + (k ^ (p - 1) - 1 + (k ^ (p * p - 1) - k ^ (p - 1) + 0)))) = k ^ (p * p - 1) by omega, pow_mul_one k (by omega)]
  omega
/-! all policies by their first layers -/
/-- the divisors from 2 on -/
def dv2 (n : Nat) : List Nat := (dvs n).filter fun d => decide (2 ≤ d)
theorem mem_dv2 {n d : Nat} : d ∈ dv2 n ↔ 2 ≤ d ∧ d ≤ n ∧ n % d = 0 := by
  unfold dv2
  rw [List.mem_filter, mem_dvs, decide_eq_true_eq]
  constructor
  · rintro ⟨⟨a, b, c⟩, d⟩; exact ⟨d, a, c⟩
  · rintro ⟨a, b, c⟩; exact ⟨⟨b, by omega, c⟩, a⟩
theorem nodup_dv2 (n : Nat) : (dv2 n).Nodup := List.Nodup.sublist List.filter_sublist (List.Nodup.sublist List.filter_sublist List.nodup_range)
theorem nodup_pds (n : Nat) : (pds n).Nodup := List.Nodup.sublist List.filter_sublist List.nodup_range
theorem co_div {n d : Nat} (h1 : 1 ≤ n) (h : n % d = 0) : n / (n / d) = d ∧ n / d * d = n := by
  have e := Nat.div_mul_cancel (Nat.dvd_of_mod_eq_zero h)
  refine ⟨?_, e⟩
  have hd : 0 < n / d := by
    rcases Nat.eq_zero_or_pos (n / d) with z | z
    · rw [z, Nat.zero_mul] at e
      omega
    · exact z
  have := Nat.mul_div_cancel_left d hd
  rw [e] at this
  exact this
theorem co_perm {n : Nat} (h1 : 1 ≤ n) : ((dv2 n).map fun d => n / d).Perm (pds n) := by
  have inj : ((dv2 n).map fun d => n / d).Nodup := by
    have key : ∀ l : List Nat, (∀ d ∈ l, n % d = 0) → l.Nodup → (l.map fun d => n / d).Nodup := by
      intro l
      induction l with
      | nil => intro _ _; exact List.nodup_nil
      | cons a l ih =>
        intro h hn
        rw [List.nodup_cons] at hn
        rw [List.map_cons, List.nodup_cons]
        refine ⟨fun z => ?_, ih (fun d hd => h d (List.mem_cons_of_mem _ hd)) hn.2⟩
        obtain ⟨b, hb, e⟩ := List.mem_map.mp z
        have ha := (co_div h1 (h a List.mem_cons_self)).1
        have hb' := (co_div h1 (h b (List.mem_cons_of_mem _ hb))).1
        rw [← ha, ← e, hb'] at hn
        exact hn.1 hb
    exact key _ (fun d hd => (mem_dv2.mp hd).2.2) (nodup_dv2 n)
  rw [List.perm_ext_iff_of_nodup inj (nodup_pds n)]
  intro x
  rw [List.mem_map, mem_pds]
  constructor
  · rintro ⟨d, hd, rfl⟩
    obtain ⟨a, b, c⟩ := mem_dv2.mp hd
    obtain ⟨e1, e2⟩ := co_div h1 c
    have hpos : 1 ≤ n / d := by
      rcases Nat.eq_zero_or_pos (n / d) with z | z
      · rw [z, Nat.zero_mul] at e2; omega
      · exact z
    refine ⟨?_, hpos, Nat.mod_eq_zero_of_dvd ⟨d, e2.symm⟩⟩
    exact Nat.div_lt_self (by omega) (by omega)
  · rintro ⟨a, b, c⟩
    obtain ⟨e1, e2⟩ := co_div h1 c
    refine ⟨n / x, mem_dv2.mpr ⟨?_, Nat.div_le_self n x, Nat.mod_eq_zero_of_dvd ⟨x, e2.symm⟩⟩, e1⟩
    rcases Nat.lt_or_ge (n / x) 2 with z | z
    · exfalso
      have : n / x = 0 ∨ n / x = 1 := by generalize n / x = y at z; omega
      rcases this with y | y
      · rw [y, Nat.zero_mul] at e2; omega
      · rw [y, Nat.one_mul] at e2; omega
    · exact z
/-- the policies that begin with a constant layer of one wait -/
def conF (k : Int) (n : Nat) : Int := k ^ (n - 1) - othF k n
theorem con_one (k : Int) : conF k 1 = 0 := by
  unfold conF
  rw [oth_one]
  simp
theorem con_sum (k : Int) {n : Nat} (h : 1 ≤ n) : (((dv2 n).map fun d => n / d).map fun r => k ^ (r - 1) - conF k r).sum = conF k n := by
  have e : (fun r => k ^ (r - 1) - conF k r) = othF k := funext fun r => by unfold conF; omega
  rw [e, perm_sum ((co_perm h).map (othF k))]
  unfold conF
  rw [oth_eq k h]
  omega
theorem pow_sum (k : Int) {n : Nat} (h : 2 ≤ n) : k * conF k n + ((dv2 n).map fun d => lstF k d * k ^ (n / d - 1)).sum = k ^ (n - 1) := by
  have e1 : (1 :: dv2 n).Perm (pds n ++ [n]) := by
    rw [← dvs_eq (by omega)]
    have n1 : (1 :: dv2 n).Nodup := List.nodup_cons.mpr ⟨fun z => by have := (mem_dv2.mp z).1; omega, nodup_dv2 n⟩
    have n2 : (dvs n).Nodup := List.Nodup.sublist List.filter_sublist List.nodup_range
    rw [List.perm_ext_iff_of_nodup n1 n2]
    intro x
    rw [List.mem_cons, mem_dv2, mem_dvs]
    constructor
    · rintro (rfl | ⟨a, b, c⟩)
      · exact ⟨by omega, by omega, Nat.mod_one n⟩
      · exact ⟨b, by omega, c⟩
    · rintro ⟨a, b, c⟩
      by_cases z : x = 1
      · exact .inl z
      · exact .inr ⟨by omega, a, c⟩
  have e2 := perm_sum (e1.map fun d => lstF k d * k ^ (n / d - 1))
  rw [List.map_cons, List.sum_cons, lst_one, Int.zero_mul, Int.zero_add, List.map_append, List.sum_append, List.map_cons, List.map_nil, List.sum_cons, List.sum_nil, Nat.div_self (by omega), Nat.sub_self, Int.pow_zero, Int.mul_one, Int.add_zero] at e2
  rw [e2, lst_eq k h]
  unfold conF
  omega
end Rn

set_option Elab.async false
set_option linter.all false
set_option maxRecDepth 100000
set_option maxHeartbeats 4000000
namespace Rn
open PySem PySem.Spec PyProof.Rows L2
/-! ## every policy has a normal form -/
theorem sm_exists (ws : List Int) (h0 : 0 < ws.length) : ∃ n, Sm ws n := by
  have key : ∀ m, 2 ≤ m → m ≤ ws.length + 1 → (∃ n, Sm ws n) ∨ ∀ j : Nat, 2 ≤ j → j < m → innB ws (j : Int) = false := by
    intro m
    induction m with
    | zero => intro h; omega
    | succ m ih =>
      intro h1 h2
      by_cases e : m < 2
      · exact .inr fun j a b => by omega
      · rcases ih (by omega) (by omega) with z | z
        · exact .inl z
        · cases q : innB ws (m : Int) with
          | true => exact .inl ⟨m, .inr ⟨by omega, by omega, q⟩, z⟩
          | false =>
            refine .inr fun j a b => ?_
            by_cases y : j = m
            · rw [y, q]
            · exact z j a (by omega)
  rcases key (ws.length + 1) (by omega) (Nat.le_refl _) with z | z
  · exact z
  · exact ⟨ws.length + 1, .inl rfl, z⟩
theorem parts_exist : ∀ (m : Nat) (ws : List Int), ws.length ≤ m → ∃ ls, Parts ws ls
  | 0, ws, h => by
    have : ws = [] := List.length_eq_zero_iff.mp (by omega)
    subst this
    exact ⟨[], .nil⟩
  | m + 1, ws, h => by
    by_cases h0 : 0 < ws.length
    · obtain ⟨n, hn⟩ := sm_exists ws h0
      obtain ⟨n2, hp⟩ := sm_per hn h0
      obtain ⟨q, hq⟩ := hp.2.1
      have q1 : 1 ≤ q := by
        rcases Nat.eq_zero_or_pos q with z | z
        · rw [z, Nat.mul_zero] at hq; omega
        · exact z
      have hl := high_len hp.1 q1 hq
      have hlt : (pks ws (n - 1) n).length ≤ m := by
        have : 2 * q ≤ n * q := Nat.mul_le_mul_right _ n2
        omega
      obtain ⟨ls, hls⟩ := parts_exist m _ hlt
      have lo := low_len hp
      by_cases c : Flat1 (blk ws n 0)
      · obtain ⟨w, hw⟩ := c
        rw [lo] at hw
        exact ⟨_, .con h0 hn hw hls⟩
      · exact ⟨_, .pol h0 hn c hls⟩
    · have : ws = [] := List.length_eq_zero_iff.mp (by omega)
      subst this
      exact ⟨[], .nil⟩
theorem nf_exists {ws : List Int} (h : ∀ x ∈ ws, 0 ≤ x) : ∃ ls, NF ls ∧ flatL ls = ws := by
  obtain ⟨ls, hls⟩ := parts_exist _ ws (Nat.le_refl _)
  obtain ⟨p1, p2⟩ := parts_ok hls h
  obtain ⟨m1, m2⟩ := merge_ok p1
  exact ⟨_, m1, m2.trans p2⟩
open Classical in
noncomputable def nfOf (ws : List Int) : List Lay := if h : ∃ ls, NF ls ∧ flatL ls = ws then h.choose else []
theorem nfOf_ok {ws : List Int} (h : ∀ x ∈ ws, 0 ≤ x) : NF (nfOf ws) ∧ flatL (nfOf ws) = ws := by
  have e := nf_exists h
  unfold nfOf
  rw [dif_pos e]
  exact e.choose_spec
theorem nfOf_eq {ws : List Int} {ls : List Lay} (h : ∀ x ∈ ws, 0 ≤ x) (n : NF ls) (e : flatL ls = ws) : nfOf ws = ls := by
  obtain ⟨a, b⟩ := nfOf_ok h
  exact nf_unique a n (b.trans e.symm)
/-! ## all lists -/
def allL (k : Nat) : Nat → List (List Int)
  | 0 => [[]]
  | m + 1 => (allL k m).flatMap fun ws => (List.range k).map fun i : Nat => ws ++ [(i : Int)]
theorem mem_allL {k : Nat} : ∀ {m : Nat} {ws : List Int}, ws ∈ allL k m ↔ ws.length = m ∧ ∀ x ∈ ws, 0 ≤ x ∧ x < (k : Int)
  | 0, ws => by
    unfold allL
    rw [List.mem_singleton]
    constructor
    · rintro rfl
      exact ⟨rfl, fun _ z => nomatch z⟩
    · rintro ⟨a, _⟩
      exact List.length_eq_zero_iff.mp a
  | m + 1, ws => by
    unfold allL
    rw [List.mem_flatMap]
    constructor
    · rintro ⟨us, hu, hw⟩
      obtain ⟨i, hi, rfl⟩ := List.mem_map.mp hw
      obtain ⟨a, b⟩ := mem_allL.mp hu
      have := List.mem_range.mp hi
      refine ⟨by rw [List.length_append, a]; rfl, fun x hx => ?_⟩
      rcases List.mem_append.mp hx with z | z
      · exact b x z
      · rw [List.mem_singleton.mp z]
        omega
    · rintro ⟨a, b⟩
      have hne : ws ≠ [] := fun z => by rw [z] at a; cases a
      obtain ⟨us, x, rfl⟩ : ∃ us x, ws = us ++ [x] := ⟨_, _, (List.dropLast_concat_getLast hne).symm⟩
      rw [List.length_append] at a
      have hx := b x (List.mem_append_right _ List.mem_cons_self)
      refine ⟨us, mem_allL.mpr ⟨by simpa using a, fun y hy => b y (List.mem_append_left _ hy)⟩, List.mem_map.mpr ⟨x.toNat, List.mem_range.mpr (by omega), ?_⟩⟩
      rw [Int.toNat_of_nonneg hx.1]
theorem nodup_flat {α β : Type} {f : α → List β} : ∀ {xs : List α}, xs.Nodup → (∀ x ∈ xs, (f x).Nodup) → (∀ x ∈ xs, ∀ y ∈ xs, ∀ z, z ∈ f x → z ∈ f y → x = y) → (xs.flatMap f).Nodup
  | [], _, _, _ => List.nodup_nil
  | x :: xs, h, h1, h2 => by
    rw [List.nodup_cons] at h
    rw [List.flatMap_cons, List.nodup_append]
    refine ⟨h1 x List.mem_cons_self, nodup_flat h.2 (fun y hy => h1 y (List.mem_cons_of_mem _ hy)) (fun y hy z hz => h2 y (List.mem_cons_of_mem _ hy) z (List.mem_cons_of_mem _ hz)), fun a ha b hb e => ?_⟩
    subst e
    obtain ⟨y, hy, hb⟩ := List.mem_flatMap.mp hb
    exact h.1 (by rw [h2 x List.mem_cons_self y (List.mem_cons_of_mem _ hy) a ha hb]; exact hy)
theorem nodup_mapi {α β : Type} {f : α → β} : ∀ {xs : List α}, xs.Nodup → (∀ x ∈ xs, ∀ y ∈ xs, f x = f y → x = y) → (xs.map f).Nodup
  | [], _, _ => List.nodup_nil
  | x :: xs, h, h2 => by
    rw [List.nodup_cons] at h
    rw [List.map_cons, List.nodup_cons]
    refine ⟨fun z => ?_, nodup_mapi h.2 fun y hy z hz => h2 y (List.mem_cons_of_mem _ hy) z (List.mem_cons_of_mem _ hz)⟩
    obtain ⟨y, hy, e⟩ := List.mem_map.mp z
    exact h.1 (by rw [h2 x List.mem_cons_self y (List.mem_cons_of_mem _ hy) e.symm]; exact hy)
theorem nodup_allL (k : Nat) : ∀ m, (allL k m).Nodup
  | 0 => by unfold allL; exact List.nodup_cons.mpr ⟨(fun z => nomatch z), List.nodup_nil⟩
  | m + 1 => by
    unfold allL
    refine nodup_flat (nodup_allL k m) (fun us _ => nodup_mapi List.nodup_range fun i _ j _ e => ?_) (fun us hu vs hv z h1 h2 => ?_)
    · have := (List.append_inj' e rfl).2
      injection this with this _
      omega
    · obtain ⟨i, _, rfl⟩ := List.mem_map.mp h1
      obtain ⟨j, _, e⟩ := List.mem_map.mp h2
      exact (List.append_inj' e rfl).1.symm
theorem len_allL (k : Nat) : ∀ m, (allL k m).length = k ^ m
  | 0 => rfl
  | m + 1 => by
    unfold allL
    rw [flatMap_len _ k (fun _ => by rw [List.length_map, List.length_range]), len_allL k m, Nat.pow_succ]
/-! ## counting -/
theorem bij_len {α β : Type} {xs : List α} {ys : List β} (f : α → β) (hx : xs.Nodup) (hy : ys.Nodup) (inj : ∀ x ∈ xs, ∀ y ∈ xs, f x = f y → x = y) (to : ∀ x ∈ xs, f x ∈ ys) (onto : ∀ y ∈ ys, ∃ x ∈ xs, f x = y) : xs.length = ys.length := by
  have p : (xs.map f).Perm ys := by
    rw [List.perm_ext_iff_of_nodup (nodup_mapi hx inj) hy]
    intro y
    rw [List.mem_map]
    exact ⟨fun ⟨x, h, e⟩ => e ▸ to x h, onto y⟩
  rw [← p.length_eq, List.length_map]
theorem count_split {α κ : Type} [DecidableEq κ] (f : α → κ) {ks : List κ} (hk : ks.Nodup) : ∀ {xs : List α}, (∀ x ∈ xs, f x ∈ ks) → xs.length = (ks.map fun k => (xs.filter fun x => decide (f x = k)).length).sum
  | [], _ => by
    have z : ∀ ks : List κ, (ks.map fun k => (([] : List α).filter fun x => decide (f x = k)).length).sum = 0 := by
      intro ks
      induction ks with
      | nil => rfl
      | cons k ks ih => rw [List.map_cons, List.sum_cons, ih]; rfl
    rw [z]
    rfl
  | x :: xs, h => by
    have ih := count_split f hk fun y hy => h y (List.mem_cons_of_mem _ hy)
    rw [List.length_cons, ih]
    have hx := h x List.mem_cons_self
    clear ih h
    induction ks with
    | nil => cases hx
    | cons k ks ih =>
      rw [List.nodup_cons] at hk
      rw [List.map_cons, List.sum_cons, List.map_cons, List.sum_cons, List.filter_cons]
      by_cases e : f x = k
      · rw [if_pos (decide_eq_true e), List.length_cons]
        have same : (ks.map fun k => ((x :: xs).filter fun x => decide (f x = k)).length) = ks.map fun k => (xs.filter fun x => decide (f x = k)).length := by
          refine List.map_congr_left fun j hj => ?_
          rw [List.filter_cons, if_neg]
          intro z
          exact hk.1 (by rw [← e, of_decide_eq_true z]; exact hj)
        rw [same]
        omega
      · rw [if_neg (fun z => e (of_decide_eq_true z))]
        rcases List.mem_cons.mp hx with z | z
        · exact absurd z e
        · have := ih hk.2 z
          omega
theorem filter_two {α : Type} (p : α → Bool) : ∀ xs : List α, (xs.filter p).length + (xs.filter fun x => !p x).length = xs.length
  | [] => rfl
  | x :: xs => by
    have ih := filter_two p xs
    rw [List.filter_cons, List.filter_cons]
    cases p x with
    | true =>
      show ((x :: xs.filter p).length + (xs.filter fun x => !p x).length) = _
      rw [List.length_cons, List.length_cons]
      omega
    | false =>
      show ((xs.filter p).length + (x :: xs.filter fun x => !p x).length) = _
      rw [List.length_cons, List.length_cons]
      omega
theorem sum_cast (xs : List Nat) : ((xs.sum : Nat) : Int) = (xs.map fun x : Nat => (x : Int)).sum := by
  induction xs with
  | nil => rfl
  | cons x xs ih => rw [List.sum_cons, List.map_cons, List.sum_cons, ← ih]; omega
theorem sum_const {α : Type} (xs : List α) (f : α → Nat) (c : Nat) (h : ∀ x ∈ xs, f x = c) : (xs.map f).sum = xs.length * c := by
  induction xs with
  | nil => simp
  | cons x xs ih =>
    rw [List.map_cons, List.sum_cons, h x List.mem_cons_self, ih fun y hy => h y (List.mem_cons_of_mem _ hy), List.length_cons, Nat.succ_mul]
    omega
/-! ## the first layer -/
noncomputable def hW (ws : List Int) : Option Int := match (nfOf ws).head? with
  | some (.con w _) => some w
  | _ => none
noncomputable def hN (ws : List Int) : Nat := match (nfOf ws).head? with
  | some L => L.sz
  | none => 0
theorem in_nest {α : Type} {xs ys : List α} {z : α} : z ∈ nestL xs ys ↔ (z ∈ xs ∨ z ∈ ys) := by
  refine ⟨nestL_mem, fun h => ?_⟩
  unfold nestL
  rcases h with h | h
  · exact List.mem_append_left _ h
  · exact List.mem_append_right _ (List.mem_flatMap.mpr ⟨z, h, List.mem_cons_self⟩)
theorem nest_all {k n d : Nat} {xs ys : List Int} (hn : 1 ≤ n) (hd : n % d = 0) (hx : xs ∈ allL k (d - 1)) (hy : ys ∈ allL k (n / d - 1)) (h1 : 1 ≤ d) : nestL xs ys ∈ allL k (n - 1) := by
  obtain ⟨a1, a2⟩ := mem_allL.mp hx
  obtain ⟨b1, b2⟩ := mem_allL.mp hy
  refine mem_allL.mpr ⟨?_, fun z hz => ?_⟩
  · have e := nestL_len xs ys
    have c := (co_div hn hd).2
    have p : 1 ≤ n / d := by
      rcases Nat.eq_zero_or_pos (n / d) with z | z
      · rw [z, Nat.zero_mul] at c; omega
      · exact z
    rw [a1, b1, show d - 1 + 1 = d by omega, show n / d - 1 + 1 = n / d by omega, Nat.mul_comm, c] at e
    omega
  · rcases nestL_mem hz with z' | z'
    · exact a2 z z'
    · exact b2 z z'
theorem all_nest {k n d : Nat} {xs ys : List Int} (hn : 1 ≤ n) (h : nestL xs ys ∈ allL k (n - 1)) (hl : xs.length + 1 = d) : n % d = 0 ∧ xs ∈ allL k (d - 1) ∧ ys ∈ allL k (n / d - 1) := by
  obtain ⟨a1, a2⟩ := mem_allL.mp h
  have e := nestL_len xs ys
  rw [a1, show n - 1 + 1 = n by omega, hl] at e
  have dv : n / d = ys.length + 1 := by rw [e]; exact Nat.mul_div_cancel_left _ (by omega)
  refine ⟨by rw [e]; exact Nat.mul_mod_right _ _, mem_allL.mpr ⟨by omega, fun x hx => a2 x (in_nest.mpr (.inl hx))⟩, mem_allL.mpr ⟨by omega, fun x hx => a2 x (in_nest.mpr (.inr hx))⟩⟩
theorem all_nn {k m : Nat} {ws : List Int} (h : ws ∈ allL k m) : ∀ x ∈ ws, 0 ≤ x := fun x hx => ((mem_allL.mp h).2 x hx).1
/-- how the first layer stands in the list -/
theorem head_of {k n : Nat} {ws : List Int} (hn : 2 ≤ n) (h : ws ∈ allL k (n - 1)) : ∃ L r, nfOf ws = L :: r ∧ NF (L :: r) ∧ ws = nestL L.waits (flatL r) ∧ hN ws = L.sz ∧ L.sz ∈ dv2 n ∧ L.waits ∈ allL k (L.sz - 1) ∧ flatL r ∈ allL k (n / L.sz - 1) ∧ nfOf (flatL r) = r := by
  obtain ⟨a, b⟩ := nfOf_ok (all_nn h)
  have hl := (mem_allL.mp h).1
  cases e : nfOf ws with
  | nil =>
    rw [e] at b
    rw [← b] at hl
    have : (flatL []).length = 0 := rfl
    omega
  | cons L r =>
    rw [e] at a b
    have s := (a.1 L List.mem_cons_self).sz
    have c := flatL_cons a.oks
    rw [b] at c
    have h2 := h
    rw [c] at h2
    obtain ⟨q1, q2, q3⟩ := all_nest (by omega) h2 (d := L.sz) rfl
    have le : L.sz ≤ n := Nat.le_of_dvd (by omega) (Nat.dvd_of_mod_eq_zero q1)
    refine ⟨L, r, rfl, a, c, by unfold hN; rw [e]; rfl, mem_dv2.mpr ⟨s, le, q1⟩, q2, q3, nfOf_eq (all_nn q3) a.tail rfl⟩
theorem hW_con {ws : List Int} {w c : Int} {r : List Lay} (e : nfOf ws = .con w c :: r) : hW ws = some w := by
  unfold hW
  rw [e]
  rfl
theorem hW_pol {ws : List Int} {ns : List Int} {r : List Lay} (e : nfOf ws = .pol ns :: r) : hW ws = none := by
  unfold hW
  rw [e]
  rfl
theorem nf_cons {L : Lay} {r : List Lay} (hL : L.nf) (hr : NF r) (h : ∀ w n v m r', L = .con w n → r = .con v m :: r' → w ≠ v) : NF (L :: r) := by
  refine ⟨fun M hM => ?_, fun i w n v m a b => ?_⟩
  · rcases List.mem_cons.mp hM with z | z
    · rw [z]; exact hL
    · exact hr.1 M z
  · cases i with
    | zero =>
      cases r with
      | nil => cases b
      | cons M r' =>
        have a' : some L = some (Lay.con w n) := a
        have b' : some M = some (Lay.con v m) := b
        exact h w n v m r' (Option.some.inj a') (by rw [Option.some.inj b'])
    | succ i => exact hr.2 i w n v m a b
theorem con_sz {w : Int} {c : Nat} (h : 1 ≤ c) : (Lay.con w (c : Int)).sz = c ∧ (Lay.con w (c : Int)).waits = List.replicate (c - 1) w := by
  have e : (Lay.con w (c : Int)).waits = List.replicate (c - 1) w := by
    show List.replicate ((c : Int) - 1).toNat w = _
    congr 1
    omega
  refine ⟨?_, e⟩
  unfold Lay.sz
  rw [e, List.length_replicate]
  omega
open Classical
/-- constant first layers of one wait and one number -/
theorem con_class {k n c w : Nat} (hn : 2 ≤ n) (hw : w < k) (hc : c ∈ dv2 n) :
    (((allL k (n - 1)).filter fun ws => decide (hW ws = some (w : Int))).filter fun ws => decide (hN ws = c)).length = ((allL k (n / c - 1)).filter fun ws => !decide (hW ws = some (w : Int))).length := by
  obtain ⟨c2, cn, cd⟩ := mem_dv2.mp hc
  obtain ⟨z1, z2⟩ := con_sz (w := (w : Int)) (c := c) (by omega)
  have rep : List.replicate (c - 1) (w : Int) ∈ allL k (c - 1) := mem_allL.mpr ⟨List.length_replicate, fun x hx => by rw [(List.mem_replicate.mp hx).2]; omega⟩
  refine (bij_len (fun r => nestL (List.replicate (c - 1) (w : Int)) r) (List.Nodup.sublist List.filter_sublist (nodup_allL _ _)) (List.Nodup.sublist List.filter_sublist (List.Nodup.sublist List.filter_sublist (nodup_allL _ _))) (fun x _ y _ e => (nestL_inj rfl e).2) (fun r hr => ?_) (fun ws hws => ?_)).symm
  · rw [List.mem_filter, Bool.not_eq_true', decide_eq_false_iff_not] at hr
    obtain ⟨h1, h2⟩ := hr
    have hall := nest_all (by omega) cd rep h1 (by omega)
    obtain ⟨nr, fr⟩ := nfOf_ok (all_nn h1)
    have nf : NF (.con (w : Int) (c : Int) :: nfOf r) := nf_cons ⟨by omega, by omega⟩ nr fun w' n' v m r' e1 e2 z => by
      cases e1
      exact h2 (by rw [hW_con e2, z])
    have e : nfOf (nestL (List.replicate (c - 1) (w : Int)) r) = .con (w : Int) (c : Int) :: nfOf r := nfOf_eq (all_nn hall) nf (by rw [flatL_cons nf.oks, z2, fr])
    rw [List.mem_filter, List.mem_filter, decide_eq_true_eq, decide_eq_true_eq]
    refine ⟨⟨hall, hW_con e⟩, ?_⟩
    unfold hN
    rw [e]
    exact z1
  · rw [List.mem_filter, List.mem_filter, decide_eq_true_eq, decide_eq_true_eq] at hws
    obtain ⟨⟨h1, h2⟩, h3⟩ := hws
    obtain ⟨L, r, e1, e2, e3, e4, e5, e6, e7, e8⟩ := head_of hn h1
    cases L with
    | pol ns => rw [hW_pol e1] at h2; cases h2
    | con v m =>
      rw [hW_con e1] at h2
      injection h2 with h2
      subst h2
      rw [h3] at e4
      have m2 : 2 ≤ m := (e2.1 _ List.mem_cons_self).2
      obtain ⟨m', rfl⟩ : ∃ m' : Nat, m = (m' : Int) := ⟨m.toNat, by omega⟩
      obtain ⟨y1, y2⟩ := con_sz (w := (w : Int)) (c := m') (by omega)
      rw [y1] at e4
      subst e4
      rw [y1] at e7
      rw [y2] at e3
      refine ⟨flatL r, ?_, e3.symm⟩
      rw [List.mem_filter, Bool.not_eq_true', decide_eq_false_iff_not]
      refine ⟨e7, fun z => ?_⟩
      unfold hW at z
      rw [e8] at z
      cases r with
      | nil => cases z
      | cons M r' =>
        cases M with
        | pol ns => cases z
        | con v' m' =>
          injection z with z
          exact e2.2 0 _ _ _ _ rfl rfl z.symm
noncomputable def cW (k w n : Nat) : Nat := ((allL k (n - 1)).filter fun ws => decide (hW ws = some (w : Int))).length
theorem cW_rec {k n w : Nat} (hn : 2 ≤ n) (hw : w < k) : (cW k w n : Int) = ((dv2 n).map fun c => (k : Int) ^ (n / c - 1) - (cW k w (n / c) : Int)).sum := by
  have e1 := count_split (κ := Nat) hN (nodup_dv2 n) (xs := (allL k (n - 1)).filter fun ws => decide (hW ws = some (w : Int))) fun ws hws => by
    obtain ⟨L, r, _, _, _, e4, e5, _⟩ := head_of hn (List.mem_filter.mp hws).1
    rw [e4]
    exact e5
  unfold cW
  rw [e1, sum_cast, List.map_map]
  congr 1
  refine List.map_congr_left fun c hc => ?_
  show (((((allL k (n - 1)).filter fun ws => decide (hW ws = some (w : Int))).filter fun ws => decide (hN ws = c)).length : Nat) : Int) = _
  rw [con_class hn hw hc]
  have e2 := filter_two (fun ws => decide (hW ws = some (w : Int))) (allL k (n / c - 1))
  rw [len_allL] at e2
  have e3 : ((k ^ (n / c - 1) : Nat) : Int) = (k : Int) ^ (n / c - 1) := Int.natCast_pow k _
  rw [← e3, ← e2]
  omega
theorem cW_is {k w : Nat} (hw : w < k) : ∀ n, 1 ≤ n → (cW k w n : Int) = conF (k : Int) n := by
  intro n
  induction n using Nat.strongRecOn with
  | _ n ih =>
    intro h1
    by_cases e : n = 1
    · subst e
      rw [con_one]
      have hh : hW [] = none := by
        have : nfOf [] = [] := nfOf_eq (fun _ z => nomatch z) ⟨(fun _ z => nomatch z), fun i w n w' m a => by cases a⟩ rfl
        unfold hW
        rw [this]
        rfl
      unfold cW
      show ((([[]] : List (List Int)).filter fun ws => decide (hW ws = some (w : Int))).length : Int) = 0
      rw [List.filter_cons, if_neg (by rw [hh]; simp)]
      rfl
    · rw [cW_rec (by omega) hw, ← con_sum (k : Int) h1, List.map_map]
      congr 1
      refine List.map_congr_left fun c hc => ?_
      obtain ⟨c2, cn, cd⟩ := mem_dv2.mp hc
      have hm := mem_pds.mp ((co_perm h1).mem_iff.mp (List.mem_map.mpr ⟨c, hc, rfl⟩))
      show _ = (k : Int) ^ (n / c - 1) - conF (k : Int) (n / c)
      rw [ih (n / c) hm.1 hm.2.1]
/-! ## lists as first layers -/
def Nc (ns : List Int) : Prop := Uns ns ∧ ¬ Flat1 ns
noncomputable def lW (k n : Nat) : Nat := ((allL k (n - 1)).filter fun ns => decide (Nc ns)).length
theorem pol_class {k n d : Nat} {ns : List Int} (hn : 2 ≤ n) (hd : d ∈ dv2 n) (hns : ns ∈ (allL k (d - 1)).filter fun ns => decide (Nc ns)) :
    ((((allL k (n - 1)).filter fun ws => decide (hW ws = none)).filter fun ws => decide (hN ws = d)).filter fun ws => decide (blk ws d 0 = ns)).length = k ^ (n / d - 1) := by
  obtain ⟨d2, dn, dd⟩ := mem_dv2.mp hd
  rw [List.mem_filter, decide_eq_true_eq] at hns
  obtain ⟨g1, g2, g3⟩ := hns
  have gl := (mem_allL.mp g1).1
  have nfns : (Lay.pol ns).nf := ⟨g2, g3, all_nn g1⟩
  rw [← len_allL]
  refine (bij_len (fun r => nestL ns r) (nodup_allL _ _) (List.Nodup.sublist List.filter_sublist (List.Nodup.sublist List.filter_sublist (List.Nodup.sublist List.filter_sublist (nodup_allL _ _)))) (fun x _ y _ e => (nestL_inj rfl e).2) (fun r hr => ?_) (fun ws hws => ?_)).symm
  · have hall := nest_all (by omega) dd g1 hr (by omega)
    obtain ⟨nr, fr⟩ := nfOf_ok (all_nn hr)
    have nf : NF (.pol ns :: nfOf r) := nf_cons nfns nr fun w' n' v m r' e1 e2 z => by cases e1
    have e : nfOf (nestL ns r) = .pol ns :: nfOf r := nfOf_eq (all_nn hall) nf (by rw [flatL_cons nf.oks, fr]; rfl)
    have hs := head_split nf.oks
    rw [flatL_cons nf.oks, fr] at hs
    have sz : (Lay.pol ns).sz = d := by show ns.length + 1 = d; omega
    rw [sz] at hs
    rw [List.mem_filter, List.mem_filter, List.mem_filter, decide_eq_true_eq, decide_eq_true_eq, decide_eq_true_eq]
    refine ⟨⟨⟨hall, hW_pol e⟩, ?_⟩, hs.1⟩
    unfold hN
    rw [e]
    exact sz
  · rw [List.mem_filter, List.mem_filter, List.mem_filter, decide_eq_true_eq, decide_eq_true_eq, decide_eq_true_eq] at hws
    obtain ⟨⟨⟨h1, h2⟩, h3⟩, h4⟩ := hws
    obtain ⟨L, r, e1, e2, e3, e4, e5, e6, e7, e8⟩ := head_of hn h1
    rw [h3] at e4
    have hs := (head_split e2.oks).1
    rw [flatL_cons e2.oks, ← e3, ← e4, h4] at hs
    rw [← e4] at e7
    rw [← hs] at e3
    exact ⟨flatL r, e7, e3.symm⟩
theorem pols_len {k n : Nat} (hn : 2 ≤ n) : ((allL k (n - 1)).filter fun ws => decide (hW ws = none)).length = ((dv2 n).map fun d => lW k d * k ^ (n / d - 1)).sum := by
  have e1 := count_split (κ := Nat) hN (nodup_dv2 n) (xs := (allL k (n - 1)).filter fun ws => decide (hW ws = none)) fun ws hws => by
    obtain ⟨L, r, _, _, _, e4, e5, _⟩ := head_of hn (List.mem_filter.mp hws).1
    rw [e4]
    exact e5
  rw [e1]
  congr 1
  refine List.map_congr_left fun d hd => ?_
  have e2 := count_split (κ := List Int) (fun ws => blk ws d 0) (ks := (allL k (d - 1)).filter fun ns => decide (Nc ns)) (List.Nodup.sublist List.filter_sublist (nodup_allL _ _)) (xs := ((allL k (n - 1)).filter fun ws => decide (hW ws = none)).filter fun ws => decide (hN ws = d)) fun ws hws => by
    rw [List.mem_filter, List.mem_filter, decide_eq_true_eq, decide_eq_true_eq] at hws
    obtain ⟨⟨h1, h2⟩, h3⟩ := hws
    obtain ⟨L, r, e1, e2, e3, e4, e5, e6, e7, e8⟩ := head_of hn h1
    rw [h3] at e4
    have hs := (head_split e2.oks).1
    rw [flatL_cons e2.oks, ← e3, ← e4] at hs
    rw [← e4] at e6
    rw [List.mem_filter, decide_eq_true_eq, hs]
    refine ⟨e6, ?_⟩
    cases L with
    | con v m => rw [hW_con e1] at h2; cases h2
    | pol ns =>
      have := e2.1 _ List.mem_cons_self
      exact ⟨this.1, this.2.1⟩
  rw [e2]
  unfold lW
  exact sum_const _ _ _ fun ns hns => pol_class hn hd hns
theorem dv2_last {n : Nat} (h : 2 ≤ n) : dv2 n = ((pds n).filter fun d => decide (2 ≤ d)) ++ [n] := by
  unfold dv2
  rw [dvs_eq (by omega), List.filter_append, List.filter_cons, if_pos (decide_eq_true h), List.filter_nil]
theorem all_split {k n : Nat} (hn : 2 ≤ n) : (k : Int) ^ (n - 1) = (k : Int) * conF (k : Int) n + ((dv2 n).map fun d => (lW k d : Int) * (k : Int) ^ (n / d - 1)).sum := by
  have e0 := filter_two (fun ws => decide (hW ws = none)) (allL k (n - 1))
  rw [len_allL] at e0
  have nd : ((List.range k).map fun i : Nat => some (i : Int)).Nodup := nodup_mapi List.nodup_range fun i _ j _ e => by injection e with e; omega
  have e1 := count_split (κ := Option Int) hW nd (xs := (allL k (n - 1)).filter fun ws => !decide (hW ws = none)) fun ws hws => by
    rw [List.mem_filter, Bool.not_eq_true', decide_eq_false_iff_not] at hws
    obtain ⟨h1, h2⟩ := hws
    obtain ⟨L, r, e1, e2, e3, e4, e5, e6, e7, e8⟩ := head_of hn h1
    cases L with
    | pol ns => exact absurd (hW_pol e1) h2
    | con v m =>
      rw [hW_con e1]
      have m2 := (e2.1 _ List.mem_cons_self).2
      have hv : v ∈ (Lay.con v m).waits := by
        show v ∈ List.replicate (m - 1).toNat v
        exact List.mem_replicate.mpr ⟨by omega, rfl⟩
      have hb := (mem_allL.mp e6).2 v hv
      exact List.mem_map.mpr ⟨v.toNat, List.mem_range.mpr (by omega), by rw [Int.toNat_of_nonneg hb.1]⟩
  have e2 : ((allL k (n - 1)).filter fun ws => !decide (hW ws = none)).length = k * (conF (k : Int) n).toNat := by
    rw [e1, List.map_map]
    have := sum_const (List.range k) ((fun κ => (((allL k (n - 1)).filter fun ws => !decide (hW ws = none)).filter fun ws => decide (hW ws = κ)).length) ∘ fun i : Nat => some (i : Int)) (conF (k : Int) n).toNat fun w hw => by
      have hw' := List.mem_range.mp hw
      show (((allL k (n - 1)).filter fun ws => !decide (hW ws = none)).filter fun ws => decide (hW ws = some (w : Int))).length = _
      have z := cW_is hw' n (by omega)
      unfold cW at z
      rw [← z, Int.toNat_natCast, List.filter_filter]
      congr 1
      refine List.filter_congr fun ws _ => ?_
      rw [Bool.eq_iff_iff, Bool.and_eq_true, Bool.not_eq_true', decide_eq_false_iff_not, decide_eq_true_eq]
      exact ⟨fun h => h.1, fun h => ⟨h, by rw [h]; exact fun z => nomatch z⟩⟩
    rw [this, List.length_range]
  rw [e2, pols_len hn] at e0
  have e3 : ((k ^ (n - 1) : Nat) : Int) = (k : Int) ^ (n - 1) := Int.natCast_pow k _
  have e4 : (((((dv2 n).map fun d => lW k d * k ^ (n / d - 1)).sum : Nat)) : Int) = ((dv2 n).map fun d => (lW k d : Int) * (k : Int) ^ (n / d - 1)).sum := by
    rw [sum_cast, List.map_map]
    have g : ∀ d ∈ dv2 n, ((fun x : Nat => (x : Int)) ∘ fun d => lW k d * k ^ (n / d - 1)) d = (lW k d : Int) * (k : Int) ^ (n / d - 1) := fun d _ => by
      show ((lW k d * k ^ (n / d - 1) : Nat) : Int) = _
      rw [Int.natCast_mul, Int.natCast_pow]
    rw [List.map_congr_left g]
  rw [← e3, ← e0, Int.natCast_add, e4, Int.natCast_mul]
  have pos : 0 ≤ conF (k : Int) n ∨ k = 0 := by
    rcases Nat.eq_zero_or_pos k with z | z
    · exact .inr z
    · have := cW_is (k := k) (w := 0) z n (by omega)
      omega
  rcases pos with z | z
  · rw [Int.toNat_of_nonneg z]
    omega
  · subst z
    simp
theorem lW_is {k : Nat} : ∀ n, 2 ≤ n → (lW k n : Int) = lstF (k : Int) n := by
  intro n
  induction n using Nat.strongRecOn with
  | _ n ih =>
    intro h2
    have e1 := all_split (k := k) h2
    have e2 := pow_sum (k : Int) h2
    rw [dv2_last h2, List.map_append, List.sum_append] at e1 e2
    have e3 : (((pds n).filter fun d => decide (2 ≤ d)).map fun d => (lW k d : Int) * (k : Int) ^ (n / d - 1)) = ((pds n).filter fun d => decide (2 ≤ d)).map fun d => lstF (k : Int) d * (k : Int) ^ (n / d - 1) := by
      refine List.map_congr_left fun d hd => ?_
      rw [List.mem_filter, decide_eq_true_eq] at hd
      rw [ih d (mem_pds.mp hd.1).1 hd.2]
    rw [e3] at e1
    simp only [List.map_cons, List.map_nil, List.sum_cons, List.sum_nil, Int.add_zero] at e1 e2
    rw [Nat.div_self (by omega), Nat.sub_self, Int.pow_zero, Int.mul_one] at e1 e2
    omega
/-- the number of unsplittable lists -/
theorem uns_count {k n : Nat} (h1 : 1 ≤ n) : ((((allL k (n - 1)).filter unsB).length : Nat) : Int) = cntF (k : Int) n := by
  by_cases e : n = 1
  · subst e
    have z : cntF (k : Int) 1 = 0 := by
      unfold cntF
      rw [lst_one, if_neg (by decide)]
      rfl
    rw [z]
    show ((([[]] : List (List Int)).filter unsB).length : Int) = 0
    rw [List.filter_cons, if_neg (by decide)]
    rfl
  have h2 : 2 ≤ n := by omega
  have s := filter_two (fun ns => decide (Flat1 ns)) ((allL k (n - 1)).filter unsB)
  have a1 : (((allL k (n - 1)).filter unsB).filter fun ns => !decide (Flat1 ns)).length = lW k n := by
    unfold lW
    rw [List.filter_filter]
    congr 1
    refine List.filter_congr fun ns _ => ?_
    rw [Bool.eq_iff_iff, Bool.and_eq_true, Bool.not_eq_true', decide_eq_false_iff_not, decide_eq_true_eq, uns_iff]
    exact ⟨fun z => ⟨z.2, z.1⟩, fun z => ⟨z.2, z.1⟩⟩
  have a2 : ((((allL k (n - 1)).filter unsB).filter fun ns => decide (Flat1 ns)).length : Int) = if (dvs n).length = 2 then (k : Int) else 0 := by
    by_cases pr : ∀ j : Nat, 2 ≤ j → j < n → ¬ j ∣ n
    · have l2 : (dvs n).length = 2 := by
        rw [dvs_eq h1, List.length_append]
        have : pds n = [1] := by
          obtain ⟨r, er⟩ := dvs_one h1
          rw [dvs_eq h1] at er
          cases ep : pds n with
          | nil => rw [ep] at er; injection er with er _; omega
          | cons a l =>
            rw [ep] at er
            injection er with er _
            subst er
            cases l with
            | nil => rfl
            | cons b l =>
              exfalso
              have hb : b ∈ pds n := by rw [ep]; exact List.mem_cons_of_mem _ List.mem_cons_self
              obtain ⟨q1, q2, q3⟩ := mem_pds.mp hb
              have nd := nodup_pds n
              rw [ep] at nd
              have b1 : b ≠ 1 := fun z => (List.nodup_cons.mp nd).1 (by rw [z]; exact List.mem_cons_self)
              exact pr b (by omega) q1 (Nat.dvd_of_mod_eq_zero q3)
        rw [this]
        rfl
      rw [if_pos l2]
      have := bij_len (xs := List.range k) (ys := ((allL k (n - 1)).filter unsB).filter fun ns => decide (Flat1 ns)) (fun i : Nat => List.replicate (n - 1) (i : Int)) List.nodup_range (List.Nodup.sublist List.filter_sublist (List.Nodup.sublist List.filter_sublist (nodup_allL _ _)))
        (fun i _ j _ e => by
          obtain ⟨m, hm⟩ : ∃ m, n - 1 = m + 1 := ⟨n - 2, by omega⟩
          rw [hm, List.replicate_succ, List.replicate_succ] at e
          injection e with e _
          omega)
        (fun i hi => by
          have := List.mem_range.mp hi
          rw [List.mem_filter, List.mem_filter, decide_eq_true_eq, uns_iff, uns_const]
          refine ⟨⟨mem_allL.mpr ⟨List.length_replicate, fun x hx => by rw [(List.mem_replicate.mp hx).2]; omega⟩, by omega, fun j j1 j2 => ?_⟩, ⟨(i : Int), by rw [List.length_replicate]⟩⟩
          rw [show n - 1 + 1 = n by omega] at j2 ⊢
          exact pr j j1 j2)
        (fun ws hws => by
          rw [List.mem_filter, List.mem_filter, decide_eq_true_eq] at hws
          obtain ⟨⟨q1, _⟩, w, hw⟩ := hws
          obtain ⟨q3, q4⟩ := mem_allL.mp q1
          rw [q3] at hw
          have hb := q4 w (by rw [hw]; exact List.mem_replicate.mpr ⟨by omega, rfl⟩)
          exact ⟨w.toNat, List.mem_range.mpr (by omega), by show List.replicate (n - 1) ((w.toNat : Nat) : Int) = ws; rw [Int.toNat_of_nonneg hb.1]; exact hw.symm⟩)
      rw [← this, List.length_range]
    · have l2 : (dvs n).length ≠ 2 := fun z => pr fun j j1 j2 hj => by
        have hm : j ∈ pds n := mem_pds.mpr ⟨j2, by omega, Nat.mod_eq_zero_of_dvd hj⟩
        have h1m : 1 ∈ pds n := mem_pds.mpr ⟨by omega, Nat.le_refl _, Nat.mod_one n⟩
        rw [dvs_eq h1, List.length_append, List.length_singleton] at z
        have l1 : (pds n).length = 1 := by omega
        obtain ⟨a, ea⟩ := List.length_eq_one_iff.mp l1
        rw [ea] at hm h1m
        have y1 := List.mem_singleton.mp hm
        have y2 := List.mem_singleton.mp h1m
        omega
      rw [if_neg l2]
      have : ((allL k (n - 1)).filter unsB).filter (fun ns => decide (Flat1 ns)) = [] := by
        rw [List.filter_eq_nil_iff]
        intro ws hws z
        rw [List.mem_filter] at hws
        obtain ⟨q1, q2⟩ := hws
        obtain ⟨w, hw⟩ := of_decide_eq_true z
        rw [uns_iff, hw, uns_const] at q2
        have ql := (mem_allL.mp q1).1
        rw [ql, show n - 1 + 1 = n by omega] at q2
        exact pr q2.2
      rw [this]
      rfl
  unfold cntF
  rw [← lW_is n h2, ← a2, ← a1]
  omega
end Rn


namespace Rn
open PySem PySem.Spec PyProof.Rows L2
/-! ## the text -/
def topS (i : Nat) : Stmt := PySem.Challenge.pw_retrynest_k33_unsplittable_policies_list.main.body.getD i (.Pass ⟨0, 0, 0, 0⟩)
abbrev s_number_power : Stmt := topS 4
abbrev s_divisors : Stmt := topS 6
abbrev s_count_lists : Stmt := topS 7
abbrev s_count_unsplittable : Stmt := topS 8
abbrev s_law_bag : Stmt := topS 10
abbrev s_law_draw : Stmt := topS 11
abbrev s_law_is_inner : Stmt := topS 18
abbrev s_law_all_lists : Stmt := topS 19
abbrev s_law : Stmt := topS 20
theorem sc_number_power : FnScope ["number", "times", "product", "_"] ["number", "times"] (defScope s_number_power) := ⟨rfl, rfl, rfl, by decide +kernel, rfl, by decide +kernel, by decide +kernel⟩
theorem sc_divisors : FnScope ["number", "part"] ["number"] (defScope s_divisors) := ⟨rfl, rfl, rfl, by decide +kernel, rfl, by decide +kernel, by decide +kernel⟩
theorem sc_count_lists : FnScope ["numbers", "kinds", "policies", "others", "lists", "number", "parts", "constant_first", "list_first", "count", "part"] ["numbers", "kinds"] (defScope s_count_lists) := ⟨rfl, rfl, rfl, by decide +kernel, rfl, by decide +kernel, by decide +kernel⟩
theorem sc_count_unsplittable : FnScope ["attempts", "kinds", "numbers", "constant"] ["attempts", "kinds"] (defScope s_count_unsplittable) := ⟨rfl, rfl, rfl, by decide +kernel, rfl, by decide +kernel, by decide +kernel⟩
theorem sc_law_bag : FnScope ["script", "fold", "great", "cell"] ["script"] (defScope s_law_bag) := ⟨rfl, rfl, rfl, by decide +kernel, rfl, by decide +kernel, by decide +kernel⟩
theorem sc_law_draw : FnScope ["bag", "many", "drawn", "turn", "mixed"] ["bag", "many"] (defScope s_law_draw) := ⟨rfl, rfl, rfl, by decide +kernel, rfl, by decide +kernel, by decide +kernel⟩
theorem sc_law_is_inner : FnScope ["waits_now", "number", "many", "places", "place"] ["waits_now", "number"] (defScope s_law_is_inner) := ⟨rfl, rfl, rfl, by decide +kernel, rfl, by decide +kernel, by decide +kernel⟩
theorem sc_law_all_lists : FnScope ["kinds_now", "size", "found", "number", "longer", "waits_now", "wait"] ["kinds_now", "size"] (defScope s_law_all_lists) := ⟨rfl, rfl, rfl, by decide +kernel, rfl, by decide +kernel, by decide +kernel⟩
theorem sc_law : FnScope ["script", "bag", "turn", "kinds_now", "size", "due", "waits_now", "inner_now", "number"] ["script"] (defScope s_law) := ⟨rfl, rfl, rfl, by decide +kernel, rfl, by decide +kernel, by decide +kernel⟩
/-! ## what the top has written -/
structure Txt (K : PySem.W.Frag) (mg : Str → Option Value) where
  f_number_power : Addr
  d_number_power : FuncData
  F_number_power : Fun K "number_power" "number_power" s_number_power f_number_power d_number_power
  g_number_power : mg "number_power" = some (.ref f_number_power)
  b_number_power : Binds K d_number_power ["number", "times"] []
  f_divisors : Addr
  d_divisors : FuncData
  F_divisors : Fun K "divisors" "divisors" s_divisors f_divisors d_divisors
  g_divisors : mg "divisors" = some (.ref f_divisors)
  b_divisors : Binds K d_divisors ["number"] []
  f_count_lists : Addr
  d_count_lists : FuncData
  F_count_lists : Fun K "count_lists" "count_lists" s_count_lists f_count_lists d_count_lists
  g_count_lists : mg "count_lists" = some (.ref f_count_lists)
  b_count_lists : Binds K d_count_lists ["numbers", "kinds"] []
  f_count_unsplittable : Addr
  d_count_unsplittable : FuncData
  F_count_unsplittable : Fun K "count_unsplittable" "count_unsplittable" s_count_unsplittable f_count_unsplittable d_count_unsplittable
  g_count_unsplittable : mg "count_unsplittable" = some (.ref f_count_unsplittable)
  b_count_unsplittable : Binds K d_count_unsplittable ["attempts", "kinds"] []
  f_law_bag : Addr
  d_law_bag : FuncData
  F_law_bag : Fun K "_law_bag" "_law_bag" s_law_bag f_law_bag d_law_bag
  g_law_bag : mg "_law_bag" = some (.ref f_law_bag)
  b_law_bag : Binds K d_law_bag ["script"] []
  f_law_draw : Addr
  d_law_draw : FuncData
  F_law_draw : Fun K "_law_draw" "_law_draw" s_law_draw f_law_draw d_law_draw
  g_law_draw : mg "_law_draw" = some (.ref f_law_draw)
  b_law_draw : Binds K d_law_draw ["bag", "many"] []
  f_law_is_inner : Addr
  d_law_is_inner : FuncData
  F_law_is_inner : Fun K "_law_is_inner" "_law_is_inner" s_law_is_inner f_law_is_inner d_law_is_inner
  g_law_is_inner : mg "_law_is_inner" = some (.ref f_law_is_inner)
  b_law_is_inner : Binds K d_law_is_inner ["waits_now", "number"] []
  f_law_all_lists : Addr
  d_law_all_lists : FuncData
  F_law_all_lists : Fun K "_law_all_lists" "_law_all_lists" s_law_all_lists f_law_all_lists d_law_all_lists
  g_law_all_lists : mg "_law_all_lists" = some (.ref f_law_all_lists)
  b_law_all_lists : Binds K d_law_all_lists ["kinds_now", "size"] []
  f_law : Addr
  d_law : FuncData
  F_law : Fun K "law" "law" s_law f_law d_law
  g_law : mg "law" = some (.ref f_law)
  b_law : Binds K d_law ["script"] []
  kb_count_unsplittable : KBinds K d_count_unsplittable ["attempts", "kinds"] ["kinds", "attempts"] kw2r kw2r
  m_abs : mg "abs" = none
  m_all : mg "all" = none
  m_any : mg "any" = none
  m_int : mg "int" = none
  m_len : mg "len" = none
  m_min : mg "min" = none
  m_range : mg "range" = none
  m_repr : mg "repr" = none
  m_sum : mg "sum" = none
end Rn
namespace Rn
open PySem PySem.Spec PyProof.Rows L2
section
variable {P : Program} {w : World} {K : PySem.W.Frag} {mg : Str → Option Value} {base : Heap}
def sp_number_power (K : PySem.W.Frag) : Sp := fun vs H Q _ => ∃ (k : Int) (m e : Nat), vs = [.int k, .int (m : Int)] ∧ k.natAbs ≤ 2 ^ e ∧ 0 < e ∧ e * (m + 2) ≤ 900000 ∧ Q (.int (k ^ m)) H
theorem ok_number_power (T : Txt K mg) : FnOk P w K mg base CX0 1 T.f_number_power T.d_number_power ["number", "times"] (sp_number_power K) := by
  refine T.F_number_power.ok sc_number_power (fun vs H Q E h => ?_) (fun cdv A outer s H vs Q E hr h => ?_)
  · obtain ⟨k, m, e, rfl, _⟩ := h
    rfl
  obtain ⟨k, m, e, rfl, hk, he, hm, q⟩ := h
  refine ⟨_, (pss_cons (ps_set (i := 2) sc_number_power.nd rfl (Or.inl rfl) pe_int)
      (pss_cons (ps_for PassesOwn.never rfl (pi_range1 (by rfl) T.m_range (pa_cons (pv 1) pa_nil)) (pg_name (i := 3) sc_number_power.nd rfl (Or.inl rfl))
      (pss_one (ps_set (i := 2) sc_number_power.nd rfl (Or.inl rfl) (pe_op op_mulW (pv 2) (pv 0)))))
      (pss_one (ps_ret (pv 2))))), ?_⟩
  have hm2 : m + 2 ≤ 900000 := by
    have : 1 * (m + 2) ≤ e * (m + 2) := Nat.mul_le_mul_right _ he
    omega
  refine ⟨_, rfl, _, rfl, by omega, by omega, ?_⟩
  refine for_range (lo := 0) (n := _) (fun i σ H' => (∃ y3, σ = [some (.int k), some (.int (m : Int)), some (.int (k ^ i)), y3]) ∧ H' = H) ⟨⟨none, by rw [Int.pow_zero]; rfl⟩, rfl⟩ (fun i σ H' hi h => ?_) (fun σ H' h => ?_)
  · obtain ⟨⟨y3, rfl⟩, rfl⟩ := h
    have hi' : i < m := by omega
    have h1 : e * (i + 1) + (e + 1) ≤ e * (m + 2) + 1 := by
      have : e * (i + 2) ≤ e * (m + 2) := Nat.mul_le_mul_left _ (by omega)
      rw [Nat.mul_add] at *
      omega
    have p1 : (k ^ i).natAbs < 2 ^ (e * (i + 1)) := by
      rw [Int.natAbs_pow]
      refine Nat.lt_of_le_of_lt (Nat.pow_le_pow_left hk i) ?_
      rw [← Nat.pow_mul]
      exact Nat.pow_lt_pow_right (by decide) (Nat.mul_lt_mul_of_pos_left (by omega) he)
    have p2 : k.natAbs < 2 ^ (e + 1) := Nat.lt_of_le_of_lt hk (Nat.pow_lt_pow_right (by decide) (by omega))
    refine ⟨_, rfl, _, rfl, _, _, rfl, rfl, wide_mul p1 p2 (Nat.mul_pos he (by omega)) (by omega) (by omega), ⟨some (.int (0 + (i : Int))), by rw [Int.pow_succ]; rfl⟩, rfl⟩
  · obtain ⟨⟨y3, rfl⟩, rfl⟩ := h
    refine ⟨_, rfl, ?_⟩
    rw [show ((m : Int)).toNat = m from Int.toNat_natCast m]
    exact q

end
end Rn
namespace Rn
open PySem PySem.Spec PyProof.Rows L2
section
variable {P : Program} {w : World} {K : PySem.W.Frag} {mg : Str → Option Value} {base : Heap}
def dvTo (n i : Nat) : List Nat := (List.range (i + 1)).filter fun d => decide (1 ≤ d) && decide (n % d = 0)
theorem dvTo_succ (n i : Nat) : dvTo n (i + 1) = if n % (i + 1) = 0 then dvTo n i ++ [i + 1] else dvTo n i := by
  unfold dvTo
  rw [List.range_succ, List.filter_append, List.filter_cons, List.filter_nil]
  by_cases h : n % (i + 1) = 0
  · rw [if_pos h, if_pos (by rw [decide_eq_true h, decide_eq_true (by omega)]; rfl)]
  · rw [if_neg h, if_neg (by rw [decide_eq_false h, Bool.and_false]; exact Bool.false_ne_true), List.append_nil]
theorem dvTo_len (n i : Nat) : (dvTo n i).length ≤ i + 1 := by
  unfold dvTo
  refine Nat.le_trans (List.length_filter_le _ _) ?_
  rw [List.length_range]
  exact Nat.le_refl _
def sp_divisors (K : PySem.W.Frag) : Sp := fun vs H Q _ => ∃ (n : Nat), vs = [.int (n : Int)] ∧ 1 ≤ n ∧ n ≤ 10000 ∧ ∀ H' p, Same H H' → H p = none → H' p = some (.lst ((cI (dvs n)).map V.int)) → Q (.ref p) H'
theorem ok_divisors (T : Txt K mg) : FnOk P w K mg base CX0 1 T.f_divisors T.d_divisors ["number"] (sp_divisors K) := by
  refine T.F_divisors.ok sc_divisors (fun vs H Q E h => ?_) (fun cdv A outer s H vs Q E hr h => ?_)
  · obtain ⟨n, rfl, _⟩ := h
    rfl
  obtain ⟨n, rfl, h1, h2, q⟩ := h
  refine ⟨_, (pss_one (ps_ret (pe_lc (own := [("part", 1)]) (g := gName 1)  rfl sc_divisors.nd (pi_range2 (by rfl) T.m_range (pa_cons pe_int (pa_cons (pe_op op_add (pv 0) pe_int) pa_nil))) (blkOk_by (N := ["number", "part"]) (sc := defScope s_divisors) (by decide +kernel)) (fun _ _ _ _ _ => (pg_name (i := 1) sc_divisors.nd rfl (Or.inl rfl))) (fun _ _ _ _ _ => (pts_one (pt_cmpR op_eq (pe_op op_mod (pv 0) (pv 1)) pe_int (nomark _)))) (fun _ _ _ _ _ => (pv 1))))), ?_⟩
  refine ⟨_, rfl, _, _, rfl, rfl, _, _, rfl, ⟨by decide, by decide, by omega, by omega⟩, fun D hD => ?_⟩
  refine lc_range (lo := 1) (n := _) (fun i H' => Same H H' ∧ H' D = some (.lst ((cI (dvTo n i)).map V.int))) ⟨same_new hD, upd_same⟩ (fun i H2 hi h => ?_) (fun H2 h => ?_)
  · obtain ⟨sm, hd⟩ := h
    refine ⟨rfl, _, rfl, _, rfl, _, _, rfl, rfl, by omega, rfl, _, rfl, ?_⟩
    have em : (n : Int) % (1 + (i : Int)) = ((n % (i + 1) : Nat) : Int) := by
      rw [show (1 + (i : Int)) = ((i + 1 : Nat) : Int) by omega]
      exact (Int.natCast_emod n (i + 1)).symm
    refine ite2 (fun e => ?_) (fun e => ?_)
    · have e' : n % (i + 1) = 0 := by
        have := of_decide_eq_true e
        injection this with this
        rw [em] at this
        omega
      refine ⟨_, rfl, _, hd, size_lt (by have := dvTo_len n i; unfold cI; rw [List.length_map, List.length_map]; omega), same_keep sm hD, ?_⟩
      rw [upd_same, dvTo_succ, if_pos e']
      unfold cI
      rw [List.map_append, List.map_append]
      rw [show (1 + (i : Int)) = ((i + 1 : Nat) : Int) by omega]
      rfl
    · have e' : ¬ n % (i + 1) = 0 := fun z => e (decide_eq_true (by show V.int ((n : Int) % (1 + (i : Int))) = V.int 0; rw [em, z]; rfl))
      refine ⟨sm, ?_⟩
      rw [dvTo_succ, if_neg e']
      exact hd
  · obtain ⟨sm, hd⟩ := h
    refine q H2 D sm hD ?_
    rw [hd, show ((n : Int) + 1 - 1).toNat = n by omega]
    rfl

end
end Rn
namespace Rn
open PySem PySem.Spec PyProof.Rows L2
section
variable {P : Program} {w : World} {K : PySem.W.Frag} {mg : Str → Option Value} {base : Heap}
def sp_count_lists (K : PySem.W.Frag) : Sp := fun vs H Q _ => ∃ (a : Addr) (n : Nat) (k : Int), vs = [.ref a, .int k] ∧ H a = some (.lst ((cI (dvs n)).map V.int)) ∧ 1 ≤ n ∧ n ≤ 200 ∧ 1 ≤ k ∧ k ≤ 100 ∧
  ∀ H' o kvs, Same H H' → H o = none → H' o = some (.dK kvs) → Tab kvs (dvs n) (lstF k) → Q (.ref o) H'
theorem ok_count_lists (T : Txt K mg) : FnOk P w K mg base CX0 2 T.f_count_lists T.d_count_lists ["numbers", "kinds"] (sp_count_lists K) := by
  have G_number_power := ok_number_power (P := P) (w := w) (base := base) T
  refine T.F_count_lists.ok sc_count_lists (fun vs H Q E h => ?_) (fun cdv A outer s H vs Q E hr h => ?_)
  · obtain ⟨a, n, k, rfl, _⟩ := h
    rfl
  obtain ⟨a, n, k, rfl, ha, n1, n2, k1, k2, q⟩ := h
  refine ⟨_, (pss_cons (ps_set (i := 2) sc_count_lists.nd rfl (Or.inr rfl) (pe_dc (own := [("count", 9)]) (g := gName 9) (tt := tYes) rfl sc_count_lists.nd (pi_list (pv 0)) (blkOk_by (N := ["numbers", "kinds", "policies", "others", "lists", "number", "parts", "constant_first", "list_first", "count", "part"]) (sc := defScope s_count_lists) (by decide +kernel)) (fun _ _ _ _ _ => (pg_name (i := 9) sc_count_lists.nd rfl (Or.inl rfl))) (fun _ _ _ _ _ => pts_nil) (fun _ _ _ _ _ => (pv 9)) (fun _ _ _ _ _ => (pe_call G_number_power hr (by rfl) T.g_number_power T.F_number_power.kp T.b_number_power .nil pass0 (pa_cons (pv 1) (pa_cons (pe_op op_sub (pv 9) pe_int) pa_nil))))))
      (pss_cons (ps_set (i := 3) sc_count_lists.nd rfl (Or.inr rfl) (pe_disp (pps_cons pe_int pe_int pps_nil) (by rfl) (by rfl) (fun z => by cases z) (by decide)))
      (pss_cons (ps_set (i := 4) sc_count_lists.nd rfl (Or.inr rfl) (pe_disp (pps_cons pe_int pe_int pps_nil) (by rfl) (by rfl) (fun z => by cases z) (by decide)))
      (pss_cons (ps_for PassesOwn.never rfl (pi_list (pe_slice sl_list (pv 0) (po_some pe_int) po_none)) (pg_name (i := 5) sc_count_lists.nd rfl (Or.inr rfl))
      (pss_cons (ps_setLc (i := 6) (own := [("part", 10)]) (g := gName 10)  rfl sc_count_lists.nd rfl rfl (sw_true rfl rfl rfl (by decide +kernel)) (pi_list (pv 0)) (blkOk_by (N := ["numbers", "kinds", "policies", "others", "lists", "number", "parts", "constant_first", "list_first", "count", "part"]) (sc := defScope s_count_lists) (by decide +kernel)) (fun _ _ _ _ _ => (pg_name (i := 10) sc_count_lists.nd rfl (Or.inl rfl))) (fun _ _ _ _ _ => (pts_one (PW.pt (pw_and (pt_cmpR op_lt (pv 10) (pv 5) (nomark _)) (pw_and1 (pt_cmpR op_eq (pe_op op_mod (pv 5) (pv 10)) pe_int (nomark _))))))) (fun _ _ _ _ _ => (pv 10)))
      (pss_cons (ps_asg (pe_op op_sub (pe_dget (units1 hr.units) (pv 2) (pv 5) (fun _ _ => rfl)) (pe_callB (cr_sum rfl) (by rfl) T.m_sum (by decide +kernel) (pa_cons (pe_lc (own := [("part", 10)]) (g := gName 10) (tt := tYes) rfl sc_count_lists.nd (pi_list (pv 6)) (blkOk_by (N := ["numbers", "kinds", "policies", "others", "lists", "number", "parts", "constant_first", "list_first", "count", "part"]) (sc := defScope s_count_lists) (by decide +kernel)) (fun _ _ _ _ _ => (pg_name (i := 10) sc_count_lists.nd rfl (Or.inl rfl))) (fun _ _ _ _ _ => pts_nil) (fun _ _ _ _ _ => (pe_dget (units1 hr.units) (pv 3) (pv 10) (fun _ _ => rfl)))) pa_nil))) (pg_sub (pv 3) (pv 5) (set_dict (units1 hr.units))))
      (pss_cons (ps_set (i := 7) sc_count_lists.nd rfl (Or.inl rfl) (pe_op op_mul (pv 1) (pe_op op_sub (pe_dget (units1 hr.units) (pv 2) (pv 5) (fun _ _ => rfl)) (pe_dget (units1 hr.units) (pv 3) (pv 5) (fun _ _ => rfl)))))
      (pss_cons (ps_set (i := 8) sc_count_lists.nd rfl (Or.inl rfl) (pe_callB (cr_sum rfl) (by rfl) T.m_sum (by decide +kernel) (pa_cons (pe_lc (own := [("part", 10)]) (g := gName 10) (tt := tYes) rfl sc_count_lists.nd (pi_list (pv 6)) (blkOk_by (N := ["numbers", "kinds", "policies", "others", "lists", "number", "parts", "constant_first", "list_first", "count", "part"]) (sc := defScope s_count_lists) (by decide +kernel)) (fun _ _ _ _ _ => (pg_name (i := 10) sc_count_lists.nd rfl (Or.inl rfl))) (fun _ _ _ _ _ => pts_nil) (fun _ _ _ _ _ => (pe_op op_mulW (pe_dget (units1 hr.units) (pv 4) (pv 10) (fun _ _ => rfl)) (pe_dget (units1 hr.units) (pv 2) (pe_op op_fdivW (pv 5) (pv 10)) (fun _ _ => rfl))))) pa_nil)))
      (pss_one (ps_asg (pe_op op_sub (pe_op op_sub (pe_dget (units1 hr.units) (pv 2) (pv 5) (fun _ _ => rfl)) (pv 7)) (pv 8)) (pg_sub (pv 4) (pv 5) (set_dict (units1 hr.units))))))))))
      (pss_one (ps_ret (pv 4))))))), ?_⟩
  have kabs : k.natAbs ≤ 2 ^ 7 := by omega
  have hlen := dvs_len n
  -- policies
  refine ⟨_, rfl, a, rfl, ⟨_, sql ha⟩, fun p hp => ?_⟩
  refine dc_list (xs := (cI (dvs n)).map V.int) (fun i H' => ∃ kvs, Same H H' ∧ H' p = some (.dK kvs) ∧ kvs.length ≤ i ∧ Tab kvs ((dvs n).take i) fun d => k ^ (d - 1))
    ⟨[], same_new hp, upd_same, Nat.le_refl _, (fun _ z => nomatch z)⟩ (fun i H' _ h => by obtain ⟨_, sm, _⟩ := h; exact sql (sm _ _ ha)) (fun i x H' hx h => ?_) (fun H1 h => ?_)
  · obtain ⟨kvs, sm, hd, hl, tab⟩ := h
    obtain ⟨d, hd', rfl⟩ := cI_get hx
    have hi : i < (dvs n).length := (List.getElem?_eq_some_iff.mp hd').1
    obtain ⟨d1, d2, d3⟩ := mem_dvs.mp (List.mem_of_getElem? hd')
    refine ⟨rfl, yes_thn ⟨_, rfl, _, rfl, _, rfl, _, _, rfl, rfl, k, d - 1, 7, ?_, kabs, by decide, by omega, kvs, Sum.inl (d : Int), rfl, hd, size_lt (by omega), putK kvs (Sum.inl (d : Int)) (.int (k ^ (d - 1))), same_keep sm hp, upd_same, Nat.le_trans (length_putK _ _ _) (Nat.succ_le_succ hl), ?_⟩⟩
    · rw [show ((d - 1 : Nat) : Int) = (d : Int) - 1 by omega]
      rfl
    · rw [List.take_add_one, hd']
      exact tab.put
  obtain ⟨kvP, s1, eP, lP, tabP⟩ := h
  rw [cI_len, List.take_length] at tabP
  -- others, lists
  obtain ⟨rs, ers⟩ := dvs_one n1
  refine fun o ho => ⟨upd_same, [(Sum.inl 1, .int 1)], rfl, by decide, ?_⟩
  have so := same_keep (o := .dK [(Sum.inl 1, .int 1)]) (same_new (o := .dK []) ho) ho
  have eo := upd_same (H := upd H1 o (.dK [])) (a := o) (o := .dK [(Sum.inl 1, .int 1)])
  change tSeq _ _ _ _ (upd (upd H1 o (.dK [])) o (.dK [(Sum.inl 1, .int 1)]))
  generalize upd (upd H1 o (.dK [])) o (.dK [(Sum.inl 1, .int 1)]) = H2 at *
  refine fun l hl => ⟨upd_same, [(Sum.inl 1, .int 0)], rfl, by decide, ?_⟩
  have sl := same_keep (o := .dK [(Sum.inl 1, .int 0)]) (same_new (o := .dK []) hl) hl
  have el := upd_same (H := upd H2 l (.dK [])) (a := l) (o := .dK [(Sum.inl 1, .int 0)])
  change tSeq _ _ _ _ (upd (upd H2 l (.dK [])) l (.dK [(Sum.inl 1, .int 0)]))
  have eo2 := sl _ _ eo
  have nol : o ≠ l := fun z => by rw [z, hl] at eo; cases eo
  generalize upd (upd H2 l (.dK [])) l (.dK [(Sum.inl 1, .int 0)]) = H3 at *
  have s3 := so.trans sl
  have lH1 : H1 l = none := so.free hl
  have a3 := s3 _ _ (s1 _ _ ha)
  -- numbers[1:]
  refine ⟨_, rfl, _, rfl, a, _, rfl, sql a3, fun b hb => ?_⟩
  have sb := same_new (o := .lst (cutV ((cI (dvs n)).map V.int) (some 1) none)) hb
  have eb := upd_same (H := H3) (a := b) (o := .lst (cutV ((cI (dvs n)).map V.int) (some 1) none))
  generalize upd H3 b (.lst (cutV ((cI (dvs n)).map V.int) (some 1) none)) = H4 at *
  have ecut : cutV ((cI (dvs n)).map V.int) (some 1) none = (cI rs).map V.int := by
    rw [show ((1 : Int)) = ((1 : Nat) : Int) from rfl, cut_to, ers]
    rfl
  rw [ecut] at eb
  have s4 := s3.trans sb
  have pne : ∀ {H'}, Same H4 H' → H' p = some (.dK kvP) := fun {H'} s => s _ _ (s4 _ _ eP)
  have lrs : rs.length < n + 1 := by rw [ers, List.length_cons] at hlen; omega
  refine ⟨b, rfl, ⟨_, sql eb⟩, for_list (xs := (cI rs).map V.int) (fun i σ H' => (∃ y5 y6 y7 y8 y9 y10, σ = [some (.ref a), some (.int k), some (.ref p), some (.ref o), some (.ref l), y5, y6, y7, y8, y9, y10]) ∧ Same H1 H' ∧ H' b = some (.lst ((cI rs).map V.int)) ∧
      (∃ kvO, H' o = some (.dK kvO) ∧ kvO.length ≤ i + 1 ∧ Tab kvO ((dvs n).take (i + 1)) (othF k)) ∧ (∃ kvL, H' l = some (.dK kvL) ∧ kvL.length ≤ i + 1 ∧ Tab kvL ((dvs n).take (i + 1)) (lstF k)))
    ⟨⟨_, _, _, _, _, _, rfl⟩, s4, eb, ⟨_, sb _ _ eo2, Nat.le_refl _, fun d hd => ?_⟩, ⟨_, sb _ _ el, Nat.le_refl _, fun d hd => ?_⟩⟩ (fun i σ H' _ h => sql h.2.2.1) (fun i x σ H5 hx h => ?_) (fun σ H5 h => ?_)⟩
  · rw [ers] at hd
    rw [List.mem_singleton.mp hd, oth_one]
    rfl
  · rw [ers] at hd
    rw [List.mem_singleton.mp hd]
    rfl
  · obtain ⟨⟨y5, y6, y7, y8, y9, y10, rfl⟩, sm, hb5, ⟨kvO, hO, lO, tO⟩, ⟨kvL, hL, lL, tL⟩⟩ := h
    obtain ⟨m, hm, rfl⟩ := cI_get hx
    have hi : i < rs.length := (List.getElem?_eq_some_iff.mp hm).1
    have hmd : (dvs n)[i + 1]? = some m := by rw [ers]; exact hm
    have mmem := List.mem_of_getElem? hmd
    obtain ⟨m1, m2, m3⟩ := mem_dvs.mp mmem
    have mge : 2 ≤ m := by
      rcases Nat.lt_or_ge m 2 with z | z
      · exfalso
        have em : m = 1 := by omega
        subst em
        have nd : (dvs n).Nodup := List.Nodup.sublist List.filter_sublist List.nodup_range
        rw [ers] at nd hmd
        exact (List.nodup_cons.mp nd).1 (List.mem_of_getElem? hm)
      · exact z
    have ne_ob : o ≠ b := fun z => by rw [z, hb5] at hO; cases hO
    have ne_lb : l ≠ b := fun z => by rw [z, hb5] at hL; cases hL
    -- parts
    have hpre : ∀ d, d ∈ pds m → d ∈ (dvs n).take (i + 1) := fun d hd => by
      rw [← dvs_pds mmem, List.mem_filter, Bool.and_eq_true, decide_eq_true_eq] at hd
      obtain ⟨z1, z2, _⟩ := hd
      have srt : (dvs n).Pairwise (· < ·) := List.Pairwise.sublist List.filter_sublist List.pairwise_lt_range
      obtain ⟨j, hj, e⟩ := List.getElem_of_mem z1
      have hji : j < i + 1 := by
        rcases Nat.lt_or_ge j (i + 1) with y | y
        · exact y
        · exfalso
          obtain ⟨hi1, e1⟩ := List.getElem?_eq_some_iff.mp hmd
          rcases Nat.lt_or_eq_of_le y with w1 | w1
          · have := (List.pairwise_iff_getElem.mp srt) (i + 1) j hi1 hj w1
            rw [e, e1] at this
            omega
          · subst w1
            rw [e1] at e
            omega
      exact List.mem_of_getElem? (i := j) (by rw [List.getElem?_take, if_pos hji, List.getElem?_eq_getElem hj, e])
    refine ⟨_, rfl, a, rfl, ⟨_, sql (sm _ _ (s1 _ _ ha))⟩, fun D hD => ?_⟩
    refine lc_list (xs := (cI (dvs n)).map V.int) (fun j H' => Same H5 H' ∧ H' D = some (.lst ((cI (((dvs n).take j).filter fun d => decide (d < m) && decide (m % d = 0))).map V.int)))
      ⟨same_new hD, upd_same⟩ (fun j H' _ h => sql (h.1 _ _ (sm _ _ (s1 _ _ ha)))) (fun j x H6 hx6 h => ?_) (fun H6 h => ?_)
    · obtain ⟨s6, hd6⟩ := h
      obtain ⟨d, hd, rfl⟩ := cI_get hx6
      have hj : j < (dvs n).length := (List.getElem?_eq_some_iff.mp hd).1
      obtain ⟨d1, d2, d3⟩ := mem_dvs.mp (List.mem_of_getElem? hd)
      have tk : (dvs n).take (j + 1) = (dvs n).take j ++ [d] := by rw [List.take_add_one, hd]; rfl
      have em : (m : Int) % (d : Int) = ((m % d : Nat) : Int) := (Int.natCast_emod m d).symm
      rw [tk, List.filter_append, List.filter_cons, List.filter_nil]
      refine ⟨rfl, _, rfl, _, rfl, _, _, rfl, rfl, _, rfl, ?_⟩
      refine ite2 (fun e => ?_) (fun e => ?_)
      · have e1 : d < m := by have := of_decide_eq_true e; omega
        refine ⟨_, rfl, _, rfl, _, _, rfl, rfl, by omega, rfl, _, rfl, ite2 (fun e2 => ?_) (fun e2 => ?_)⟩
        · have e3 : m % d = 0 := by
            have := of_decide_eq_true e2
            injection this with this
            rw [em] at this
            omega
          rw [if_pos (by rw [decide_eq_true e1, decide_eq_true e3]; rfl)]
          refine ⟨_, rfl, _, hd6, size_lt (by rw [cI_len]; have := List.length_filter_le (fun d => decide (d < m) && decide (m % d = 0)) ((dvs n).take j); rw [List.length_take] at this; omega), same_keep s6 hD, ?_⟩
          rw [upd_same]
          unfold cI
          rw [List.map_append, List.map_append]
          rfl
        · have e3 : ¬ m % d = 0 := fun z => e2 (decide_eq_true (by show V.int ((m : Int) % (d : Int)) = V.int 0; rw [em, z]; rfl))
          rw [if_neg (by rw [decide_eq_false e3, Bool.and_false]; exact Bool.false_ne_true), List.append_nil]
          exact ⟨s6, hd6⟩
      · have e1 : ¬ d < m := fun z => e (decide_eq_true (by omega))
        rw [if_neg (by rw [decide_eq_false e1]; exact Bool.false_ne_true), List.append_nil]
        exact ⟨s6, hd6⟩
    obtain ⟨s6, hd6⟩ := h
    rw [cI_len, List.take_length, dvs_pds mmem] at hd6
    have lpd := pds_len m
    have e6 : ∀ {H'}, Same H6 H' → H' p = some (.dK kvP) := fun {H'} s => s _ _ (s6 _ _ (sm _ _ eP))
    have mk := fun d (hd : d ∈ pds m) => hpre d hd
    have pall : ∀ d, d ∈ pds m → d ∈ dvs n := fun d hd => List.mem_of_mem_take (hpre d hd)
    have tkm : (dvs n).take (i + 1 + 1) = (dvs n).take (i + 1) ++ [m] := by rw [List.take_add_one, hmd]; rfl
    -- others[number]
    refine ⟨_, rfl, _, rfl, p, _, rfl, tabP.get (e6 (Same.refl _)) mmem, _, rfl, D, rfl, ⟨_, sql hd6⟩, fun E2 hE2 => ?_⟩
    refine lc_list (xs := (cI (pds m)).map V.int) (fun j H' => Same H6 H' ∧ H' E2 = some (.lst ((((pds m).take j).map (othF k)).map V.int)))
      ⟨same_new hE2, upd_same⟩ (fun j H' _ h => sql (h.1 _ _ hd6)) (fun j x H7 hx7 h => ?_) (fun H7 h => ?_)
    · obtain ⟨s7, hd7⟩ := h
      obtain ⟨d, hd, rfl⟩ := cI_get hx7
      have hj : j < (pds m).length := (List.getElem?_eq_some_iff.mp hd).1
      refine ⟨rfl, yes_thn ⟨_, rfl, _, rfl, o, _, rfl, tO.get (s7 _ _ (s6 _ _ hO)) (mk d (List.mem_of_getElem? hd)), _, hd7, size_lt (by rw [List.length_map, List.length_map, List.length_take]; omega), same_keep s7 hE2, ?_⟩⟩
      rw [upd_same, List.take_add_one, hd, Option.toList_some, List.map_append, List.map_append]
      rfl
    obtain ⟨s7, hd7⟩ := h
    rw [cI_len, List.take_length] at hd7
    have hO7 := s7 _ _ (s6 _ _ hO)
    have eO : k ^ (m - 1) - ((pds m).map (othF k)).sum = othF k m := (oth_eq k (by omega)).symm
    have dp : DPut H7 o (.int (m : Int)) (.int (k ^ (m - 1) - ((pds m).map (othF k)).sum)) (upd H7 o (.dK (putK kvO (Sum.inl (m : Int)) (.int (othF k m))))) := by
      rw [eO]
      exact DPut.k (k := Sum.inl (m : Int)) hO7 (size_lt (by omega))
    refine ⟨E2, _, rfl, sql hd7, _, _, rfl, rfl, _, rfl, _, rfl, o, _, rfl, dp, ?_⟩
    have tO8 := tO.put (d := m)
    rw [← tkm] at tO8
    have lO8 := Nat.le_trans (length_putK kvO (Sum.inl (m : Int)) (.int (othF k m))) (Nat.succ_le_succ lO)
    generalize hkO : putK kvO (Sum.inl (m : Int)) (.int (othF k m)) = kvO' at *
    have s8 : Same H1 (upd H7 o (.dK kvO')) := same_keep ((sm.trans s6).trans s7) ho
    have hO8 := upd_same (H := H7) (a := o) (o := .dK kvO')
    have hb8 : upd H7 o (.dK kvO') b = some (.lst ((cI rs).map V.int)) := by rw [upd_ne ne_ob.symm]; exact s7 _ _ (s6 _ _ hb5)
    have hL8 : upd H7 o (.dK kvO') l = some (.dK kvL) := by rw [upd_ne nol.symm]; exact s7 _ _ (s6 _ _ hL)
    have noD : D ≠ o := fun z => by rw [z] at hd6; rw [s6 _ _ hO] at hd6; cases hd6
    have hD8 : upd H7 o (.dK kvO') D = some (.lst ((cI (pds m)).map V.int)) := by rw [upd_ne noD]; exact s7 _ _ hd6
    generalize upd H7 o (.dK kvO') = H8 at *
    have p8 : H8 p = some (.dK kvP) := s8 _ _ eP
    -- constant_first
    refine ⟨_, rfl, _, rfl, _, rfl, p, _, rfl, tabP.get p8 mmem, _, rfl, _, rfl, o, _, rfl, tO8.get hO8 (by rw [tkm]; exact List.mem_append_right _ List.mem_cons_self), _, _, rfl, rfl, _, _, rfl, rfl, .inl ⟨by omega, by omega⟩, ?_⟩
    -- list_first
    refine ⟨_, rfl, D, rfl, ⟨_, sql hD8⟩, fun E3 hE3 => ?_⟩
    refine lc_list (xs := (cI (pds m)).map V.int) (fun j H' => Same H8 H' ∧ H' E3 = some (.lst ((((pds m).take j).map fun d => lstF k d * k ^ (m / d - 1)).map V.int)))
      ⟨same_new hE3, upd_same⟩ (fun j H' _ h => sql (h.1 _ _ hD8)) (fun j x H9 hx9 h => ?_) (fun H9 h => ?_)
    · obtain ⟨s9, hd9⟩ := h
      obtain ⟨d, hd, rfl⟩ := cI_get hx9
      have hj : j < (pds m).length := (List.getElem?_eq_some_iff.mp hd).1
      have dm := List.mem_of_getElem? hd
      obtain ⟨d1, d2, d3⟩ := mem_pds.mp dm
      obtain ⟨q1, q2, q3⟩ := prop_div dm
      have qmem : m / d ∈ dvs n := mem_dvs.mpr ⟨by omega, q3, Nat.mod_eq_zero_of_dvd (Nat.dvd_trans ⟨d, (Nat.div_mul_cancel (Nat.dvd_of_mod_eq_zero d3)).symm⟩ (Nat.dvd_of_mod_eq_zero m3))⟩
      have edv : (m : Int) / (d : Int) = ((m / d : Nat) : Int) := (Int.natCast_ediv m d).symm
      have a1 := lst_abs kabs d d2 (by omega)
      have a2 := pow_abs (n := m / d - 1) kabs
      have b1 : (lstF k d).natAbs < 2 ^ 7000 := Nat.lt_of_le_of_lt a1 (Nat.pow_lt_pow_right (by decide) (by omega))
      have b2 : (k ^ (m / d - 1)).natAbs < 2 ^ 7000 := Nat.lt_of_le_of_lt a2 (Nat.pow_lt_pow_right (by decide) (by omega))
      refine ⟨rfl, yes_thn ⟨_, rfl, _, rfl, l, _, rfl, tL.get (s9 _ _ hL8) (mk d dm), _, rfl, _, rfl, _, rfl, _, _, rfl, rfl, wide_div (b := 20) (by omega) (by omega) (by decide) (by decide), p, .int (k ^ (m / d - 1)), rfl, ?_, _, _, rfl, rfl, wide_mul b1 b2 (by decide) (by decide) (by decide), _, hd9, size_lt (by rw [List.length_map, List.length_map, List.length_take]; omega), same_keep s9 hE3, ?_⟩⟩
      · show DGet H9 p (.int ((m : Int) / (d : Int))) _
        rw [edv]
        exact tabP.get (s9 _ _ p8) qmem
      · rw [upd_same, List.take_add_one, hd, Option.toList_some, List.map_append, List.map_append]
        rfl
    obtain ⟨s9, hd9⟩ := h
    rw [cI_len, List.take_length] at hd9
    refine ⟨E3, _, rfl, sql hd9, ?_⟩
    -- lists[number]
    have hL9 := s9 _ _ hL8
    have eL : k ^ (m - 1) - k * (k ^ (m - 1) - othF k m) - ((pds m).map fun d => lstF k d * k ^ (m / d - 1)).sum = lstF k m := (lst_eq k mge).symm
    have dq : DPut H9 l (.int (m : Int)) (.int (k ^ (m - 1) - k * (k ^ (m - 1) - othF k m) - ((pds m).map fun d => lstF k d * k ^ (m / d - 1)).sum)) (upd H9 l (.dK (putK kvL (Sum.inl (m : Int)) (.int (lstF k m))))) := by
      rw [eL]
      exact DPut.k (k := Sum.inl (m : Int)) hL9 (size_lt (by omega))
    refine ⟨_, rfl, _, rfl, p, _, rfl, tabP.get (s9 _ _ p8) mmem, _, rfl, _, _, rfl, rfl, _, rfl, _, _, rfl, rfl, _, rfl, _, rfl, l, _, rfl, dq, ?_⟩
    have tL8 := tL.put (d := m)
    rw [← tkm] at tL8
    refine ⟨⟨_, _, _, _, _, _, rfl⟩, same_keep (s8.trans s9) lH1, by rw [upd_ne ne_lb.symm]; exact s9 _ _ hb8, ⟨_, by rw [upd_ne nol]; exact s9 _ _ hO8, lO8, tO8⟩, ⟨_, upd_same, Nat.le_trans (length_putK kvL (Sum.inl (m : Int)) (.int (lstF k m))) (Nat.succ_le_succ lL), tL8⟩⟩
  · obtain ⟨⟨y5, y6, y7, y8, y9, y10, rfl⟩, sm, hb5, ⟨kvO, hO, lO, tO⟩, ⟨kvL, hL, lL, tL⟩⟩ := h
    rw [cI_len, show rs.length + 1 = (dvs n).length by rw [ers, List.length_cons], List.take_length] at tL
    exact ⟨_, rfl, q H5 l kvL (s1.trans sm) (s1.free lH1) hL tL⟩

end
end Rn
namespace Rn
open PySem PySem.Spec PyProof.Rows L2
section
variable {P : Program} {w : World} {K : PySem.W.Frag} {mg : Str → Option Value} {base : Heap}
def sp_count_unsplittable (K : PySem.W.Frag) : Sp := fun vs H Q _ => ∃ (m : Nat) (k : Int), vs = [.int (m : Int), .int k] ∧ 1 ≤ m ∧ m ≤ 200 ∧ 1 ≤ k ∧ k ≤ 100 ∧ ∀ H', Same H H' → Q (.int (cntF k m)) H'
theorem ok_count_unsplittable (T : Txt K mg) : FnOk P w K mg base CX0 3 T.f_count_unsplittable T.d_count_unsplittable ["attempts", "kinds"] (sp_count_unsplittable K) := by
  have G_divisors := (ok_divisors (P := P) (w := w) (base := base) T).mono (by decide : 1 ≤ 2)
  have G_count_lists := (ok_count_lists (P := P) (w := w) (base := base) T)
  refine T.F_count_unsplittable.ok sc_count_unsplittable (fun vs H Q E h => ?_) (fun cdv A outer s H vs Q E hr h => ?_)
  · obtain ⟨n, k, rfl, _⟩ := h
    rfl
  obtain ⟨m, k, rfl, n1, hn, k1, hk, q⟩ := h
  refine ⟨_, (pss_cons (ps_if (pt_cmpR op_lt (pv 0) pe_int (nomark _))
      (pss_one ps_never)
      pss_nil)
      (pss_cons (ps_if (pt_cmpR op_lt (pv 1) pe_int (nomark _))
      (pss_one ps_never)
      pss_nil)
      (pss_cons (ps_set (i := 2) sc_count_unsplittable.nd rfl (Or.inl rfl) (pe_call G_divisors hr (by rfl) T.g_divisors T.F_divisors.kp T.b_divisors .nil pass0 (pa_cons (pv 0) pa_nil)))
      (pss_cons (ps_set (i := 3) sc_count_unsplittable.nd rfl (Or.inl rfl) (pe_ifExp (pt_cmpR op_eq (pe_callB call_len_seq (by rfl) T.m_len PySem.boot_len (pa_cons (pv 2) pa_nil)) pe_int (nomark _)) (pv 1) pe_int))
      (pss_one (ps_ret (pe_op op_add (pe_dget (units1 hr.units) (pe_call G_count_lists hr (by rfl) T.g_count_lists T.F_count_lists.kp T.b_count_lists .nil pass0 (pa_cons (pv 2) (pa_cons (pv 1) pa_nil))) (pv 0) (fun _ _ => rfl)) (pv 3)))))))), ?_⟩
  refine ⟨_, rfl, _, _, rfl, rfl, _, rfl, ite2 (fun e => absurd (of_decide_eq_true e) (by omega)) fun _ => ?_⟩
  refine ⟨_, rfl, _, _, rfl, rfl, _, rfl, ite2 (fun e => absurd (of_decide_eq_true e) (by omega)) fun _ => ?_⟩
  refine ⟨_, rfl, m, rfl, by omega, by omega, fun H1 p s1 fp hp => ?_⟩
  refine ⟨_, rfl, p, _, rfl, .inl (sql hp), rfl, _, rfl, ?_⟩
  have fin : ∀ c : Int, c = (if (dvs m).length = 2 then k else 0) → ∀ H2 kvs o, Same H1 H2 → H2 o = some (.dK kvs) → Tab kvs (dvs m) (lstF k) → DGet H2 o (.int (m : Int)) (some (.int (lstF k m))) ∧ Q (.int (lstF k m + c)) H2 := fun c hc H2 kvs o s2 ho tab =>
    ⟨tab.get ho (mem_dvs.mpr ⟨Nat.le_refl _, by omega, Nat.mod_self m⟩), by rw [hc]; exact q H2 (s1.trans s2)⟩
  refine ite2 (fun e3 => ?_) (fun e3 => ?_)
  · have e4 : (dvs m).length = 2 := by
      have := of_decide_eq_true e3
      injection this with this
      rw [cI_len] at this
      omega
    refine ⟨_, rfl, ?_⟩
    refine ⟨_, rfl, _, rfl, p, m, k, rfl, hp, by omega, by omega, k1, hk, fun H2 o kvs s2 fo ho tab => ?_⟩
    obtain ⟨z1, z2⟩ := fin k (by rw [if_pos e4]) H2 kvs o s2 ho tab
    exact ⟨_, rfl, o, _, rfl, z1, _, rfl, _, _, rfl, rfl, z2⟩
  · have e4 : ¬ (dvs m).length = 2 := fun z => e3 (decide_eq_true (by rw [cI_len, z]; rfl))
    refine ⟨_, rfl, _, rfl, p, m, k, rfl, hp, by omega, by omega, k1, hk, fun H2 o kvs s2 fo ho tab => ?_⟩
    obtain ⟨z1, z2⟩ := fin 0 (by rw [if_neg e4]) H2 kvs o s2 ho tab
    exact ⟨_, rfl, o, _, rfl, z1, _, rfl, _, _, rfl, rfl, z2⟩

end
end Rn
namespace Rn
open PySem PySem.Spec PyProof.Rows L2
section
variable {P : Program} {w : World} {K : PySem.W.Frag} {mg : Str → Option Value} {base : Heap}
def sp_law_bag (K : PySem.W.Frag) : Sp := fun vs H Q _ => ∃ (a : Addr) (ns : List Int), vs = [.ref a] ∧ SqL K H a (ns.map V.int) ∧ ns.length ≤ 63 ∧ ∀ H' p g, Same H H' → H p = none → H g = none → Bag H' p g 0 → Q (.ref p) H'
theorem ok_law_bag (T : Txt K mg) : FnOk P w K mg base CX0 1 T.f_law_bag T.d_law_bag ["script"] (sp_law_bag K) := by
  refine T.F_law_bag.ok sc_law_bag (fun vs H Q E h => ?_) (fun cdv A outer s H vs Q E hr h => ?_)
  · obtain ⟨a, ns, rfl, _⟩ := h
    rfl
  obtain ⟨a, ns, rfl, hS, hl, q⟩ := h
  refine ⟨_, (pss_cons (ps_par (i := 1) (j := 2) (by rfl) sc_law_bag.nd rfl rfl (by decide) rfl rfl (pa_cons pe_int (pa_cons (pe_lst pa_nil) pa_nil)) (by rfl))
      (pss_cons (ps_for PassesOwn.never rfl (pi_list (pv 0)) (pg_name (i := 3) sc_law_bag.nd rfl (Or.inl rfl))
      (pss_cons (ps_set (i := 1) sc_law_bag.nd rfl (Or.inl rfl) (pe_op op_mod (pe_op op_add (pe_op op_mul (pv 1) pe_int) (pv 3)) pe_int))
      (pss_one (ps_if (pt_cmpR op_ge (pe_callB call_abs (by rfl) T.m_abs (by decide +kernel) (pa_cons (pv 3) pa_nil)) (pe_op op_pow pe_int pe_int) (nomark _))
      (pss_one (ps_expr (pe_bm PySem.F.plainAttrs_list PySem.F.slot_list_append PySem.F.type_list_append mt_append (pv 2) (pa_cons (pe_callB call_abs (by rfl) T.m_abs (by decide +kernel) (pa_cons (pv 3) pa_nil)) pa_nil))))
      pss_nil))))
      (pss_one (ps_ret (pe_disp (pps_cons pe_str (pv 2) (pps_cons pe_str pe_int (pps_cons pe_str pe_int (pps_cons pe_str (pv 1) pps_nil)))) (by rfl) (by rfl) (fun z => by cases z) (by decide)))))), ?_⟩
  refine ⟨Nat.zero_le _, fun g hg => ?_⟩
  have sg := same_new (o := .lst []) hg
  have eg := upd_same (H := H) (a := g) (o := .lst [])
  generalize upd H g (.lst []) = H1 at *
  refine ⟨_, _, rfl, _, rfl, a, rfl, ⟨_, sg.seq hS⟩, for_list (xs := ns.map V.int) (fun i σ H' => ∃ f ds y3, σ = [some (.ref a), some (.int f), some (.ref g), y3] ∧ 0 ≤ f ∧ f < 2305843009213693951 ∧ Same H H' ∧ H' g = some (.lst ((ds : List Int).map V.int)) ∧ ds.length ≤ i)
    ⟨11, [], none, rfl, by decide, by decide, sg, eg, Nat.le_refl _⟩ (fun i σ H' _ h => by obtain ⟨_, _, _, _, _, _, sm, _⟩ := h; exact sm.seq hS) (fun i x σ H' hx h => ?_) (fun σ H' h => ?_)⟩
  · obtain ⟨f, ds, y3, rfl, f0, f1, sm, hd, hlen⟩ := h
    have hi : i < 63 := by
      have := (List.getElem?_eq_some_iff.mp hx).1
      rw [List.length_map] at this
      omega
    obtain ⟨n, rfl⟩ : ∃ n, x = .int n := by
      rw [List.getElem?_map] at hx
      cases e : ns[i]? with
      | none => rw [e] at hx; cases hx
      | some n => rw [e] at hx; exact ⟨n, (Option.some.inj hx).symm⟩
    have q2 : (0 : Int) < 2305843009213693951 := by decide
    refine ⟨_, rfl, _, _, rfl, rfl, .inl ⟨by omega, by omega⟩, _, rfl, _, _, rfl, rfl, _, _, rfl, rfl, q2, ?_⟩
    have r0 := Int.emod_nonneg (f * 1000003 + n) (show (2305843009213693951 : Int) ≠ 0 by decide)
    have r1 := Int.emod_lt_of_pos (f * 1000003 + n) q2
    refine ⟨_, rfl, _, rfl, _, _, rfl, rfl, ⟨by decide, by decide, by decide⟩, _, _, rfl, rfl, _, rfl, ite2 (fun e => ?_) (fun e => ?_)⟩
    · refine ⟨_, rfl, .inl ⟨rfl, _, sql hd⟩, _, rfl, _, rfl, g, _, _, rfl, rfl, hd, size_lt (by rw [List.length_map]; omega), _, ds ++ [if n < 0 then -n else n], _, rfl, r0, r1, same_keep sm hg, ?_, ?_⟩
      · rw [upd_same, List.map_append]
        rfl
      · rw [List.length_append]
        exact Nat.succ_le_succ hlen
    · exact ⟨_, ds, _, rfl, r0, r1, sm, hd, by omega⟩
  · obtain ⟨f, ds, y3, rfl, f0, f1, sm, hd, hlen⟩ := h
    refine fun p hp => ⟨_, rfl, _, rfl, upd_same, [(Sum.inr "great", .ref g), (Sum.inr "left", .int 0), (Sum.inr "turn", .int 0), (Sum.inr "fold", .int f)], rfl, (by show (4 : Nat) ≤ 15; decide), ?_⟩
    have pg : p ≠ g := fun z => by rw [z, hd] at hp; cases hp
    exact q _ p g (same_keep (sm.trans (same_new hp)) (sm.free hp)) (sm.free hp) hg ⟨0, 0, f, ds, upd_same, by rw [upd_ne pg.symm, upd_ne pg.symm]; exact hd, f0, f1, by decide, by decide⟩

end
end Rn
namespace Rn
open PySem PySem.Spec PyProof.Rows L2
section
variable {P : Program} {w : World} {K : PySem.W.Frag} {mg : Str → Option Value} {base : Heap}
def sp_law_draw (K : PySem.W.Frag) : Sp := fun vs H Q _ => ∃ (a g : Addr) (n many : Int), vs = [.ref a, .int many] ∧ Bag H a g n ∧ n ≤ 1000000000 ∧ 0 < many ∧ many < 2 ^ 100 ∧
  ∀ H' r, Bdv a g 1 H H' → 0 ≤ r → r < many → Q (.int r) H'
theorem ok_law_draw (T : Txt K mg) : FnOk P w K mg base CX0 1 T.f_law_draw T.d_law_draw ["bag", "many"] (sp_law_draw K) := by
  refine T.F_law_draw.ok sc_law_draw (fun vs H Q E h => ?_) (fun cdv A outer s H vs Q E hr h => ?_)
  · obtain ⟨a, g, n, many, rfl, _⟩ := h
    rfl
  obtain ⟨a, g, n, many, rfl, hS, hn, hm0, hm1, q⟩ := h
  refine ⟨_, (Evl.pss_cut (ps_if (PW.pt (pw_and (pt_cmpR op_lt (pe_dget (units1 hr.units) (pv 0) pe_str (fun _ _ => rfl)) (pv 1) (nomark _)) (pw_and1 (pt_cmpR op_gt (pe_callB call_len_seq (by rfl) T.m_len PySem.boot_len (pa_cons (pe_dget (units1 hr.units) (pv 0) pe_str (fun _ _ => rfl)) pa_nil)) pe_int (nomark _)))))
      (pss_one (ps_asg (pe_bm PySem.F.plainAttrs_list PySem.F.slot_list_pop PySem.F.type_list_pop mt_popAt (pe_dget (units1 hr.units) (pv 0) pe_str (fun _ _ => rfl)) (pa_cons pe_int pa_nil)) (pg_sub (pv 0) pe_str (set_dict (units1 hr.units)))))
      pss_nil)
      (pss_cons (ps_if (pt_cmpR op_ge (pe_dget (units1 hr.units) (pv 0) pe_str (fun _ _ => rfl)) (pv 1) (nomark _))
      (pss_cons (ps_set (i := 2) sc_law_draw.nd rfl (Or.inl rfl) (pe_op op_mod (pe_dget (units1 hr.units) (pv 0) pe_str (fun _ _ => rfl)) (pv 1)))
      (pss_cons (ps_asg (pe_op op_fdivW (pe_dget (units1 hr.units) (pv 0) pe_str (fun _ _ => rfl)) (pv 1)) (pg_sub (pv 0) pe_str (set_dict (units1 hr.units))))
      (pss_one (ps_ret (pv 2)))))
      pss_nil)
      (pss_cons (ps_daug (units1 hr.units) (pv 0) pe_str pe_int in_add (fun _ _ _ => rfl))
      (pss_cons (ps_set (i := 3) sc_law_draw.nd rfl (Or.inl rfl) (pe_dget (units1 hr.units) (pv 0) pe_str (fun _ _ => rfl)))
      (pss_cons (ps_set (i := 4) sc_law_draw.nd rfl (Or.inl rfl) (pe_op op_add (pe_op op_mul (pe_op op_add (pe_dget (units1 hr.units) (pv 0) pe_str (fun _ _ => rfl)) (pe_op op_mul pe_int (pv 3))) (pe_op op_pow (pe_op op_add (pv 3) pe_int) pe_int)) (pe_op op_mul pe_int (pv 3))))
      (pss_one (ps_ret (pe_op op_mod (pe_op op_fdivW (pe_op op_mod (pe_op op_pow (pe_op op_mod (pv 4) pe_int) pe_int) (pe_op op_add (pe_op op_pow pe_int pe_int) pe_int)) pe_int) (pv 1))))))))), ?_⟩
  obtain ⟨l, t, f, ds, ha, hg, f0, f1, t0, t1⟩ := hS
  have nag : a ≠ g := fun e => by rw [e, hg] at ha; cases ha
  obtain ⟨d1, d2, d3, d4⟩ := bag_get ha
  -- if bag['left'] < many and len(bag['great']) > 0
  refine ⟨fun σ' H' => σ' = [some (.ref a), some (.int many), none, none, none] ∧ ∃ l' ds', H' a = some (.dK (bagKV g l' t f)) ∧ H' g = some (.lst ((ds' : List Int).map V.int)) ∧ Same (hid a g H) (hid a g H'), ?_, fun σ' H1 h1 => ?_⟩
  · have none0 : ∃ l' ds', H a = some (.dK (bagKV g l' t f)) ∧ H g = some (.lst ((ds' : List Int).map V.int)) ∧ Same (hid a g H) (hid a g H) := ⟨l, ds, ha, hg, Same.refl _⟩
    refine ⟨_, rfl, a, _, rfl, d1, _, rfl, _, _, rfl, rfl, _, rfl, ite2 (fun _ => ?_) (fun _ => ⟨rfl, none0⟩)⟩
    refine ⟨_, rfl, a, _, rfl, d2, g, _, rfl, .inl (sql hg), _, _, rfl, rfl, _, rfl, ite2 (fun e => ?_) (fun _ => ⟨rfl, none0⟩)⟩
    have hpos : 0 < (ds.map V.int).length := by have := of_decide_eq_true e; omega
    rw [List.length_map] at hpos
    cases ds with
    | nil => exact absurd hpos (Nat.lt_irrefl 0)
    | cons x r =>
      refine ⟨_, rfl, a, _, rfl, d2, .inl ⟨rfl, _, sql hg⟩, g, _, 0, 0, .int x, rfl, rfl, hg, by decide, by decide, ?_, rfl, ?_⟩
      · rw [List.length_map, List.length_cons]
        unfold seqIndex?
        simp
      have ha2 : upd H g (.lst (((x :: r).map V.int).eraseIdx 0)) a = some (.dK (bagKV g l t f)) := by rw [upd_ne nag]; exact ha
      have sm2 : Same (hid a g H) (hid a g (upd H g (.lst (((x :: r).map V.int).eraseIdx 0)))) := by rw [hid_src2]; exact Same.refl _
      have hg2 : upd H g (.lst (((x :: r).map V.int).eraseIdx 0)) g = some (.lst (r.map V.int)) := upd_same
      generalize upd H g (.lst (((x :: r).map V.int).eraseIdx 0)) = H2 at *
      have dp : DPut H2 a (.str "left") (.int x) (upd H2 a (.dK (bagKV g x t f))) := by
        have := DPut.k (k := Sum.inr "left") (v := .int x) ha2 (size_lt (by show 4 < 100000; decide))
        rw [bag_left] at this
        exact this
      refine ⟨_, rfl, a, _, rfl, dp, rfl, x, r, upd_same, by rw [upd_ne nag.symm]; exact hg2, ?_⟩
      rw [hid_src1]
      exact sm2
  obtain ⟨rfl, l', ds', ha1, hg1, sm1⟩ := h1
  clear d1 d2 d3 d4
  obtain ⟨d1, d2, d3, d4⟩ := bag_get ha1
  refine ⟨_, rfl, a, _, rfl, d1, _, rfl, _, _, rfl, rfl, _, rfl, ite2 (fun e => ?_) (fun e => ?_)⟩
  · refine ⟨_, rfl, a, _, rfl, d1, _, rfl, _, _, rfl, rfl, hm0, ?_⟩
    have dp : DPut H1 a (.str "left") (.int (l' / many)) (upd H1 a (.dK (bagKV g (l' / many) t f))) := by
      have := DPut.k (k := Sum.inr "left") (v := .int (l' / many)) ha1 (size_lt (by show 4 < 100000; decide))
      rw [bag_left] at this
      exact this
    refine ⟨_, rfl, a, _, rfl, d1, _, rfl, _, _, rfl, rfl, wide_div (b := 100) hm0 (by omega) (by decide) (by decide), _, rfl, a, _, rfl, dp, ?_⟩
    refine ⟨_, rfl, q _ _ (Bdv.made (l' := l' / many) (t' := t) (ds' := ds') ?_ ha upd_same (by rw [upd_ne nag.symm]; exact hg1) (by omega) (by omega)) (Int.emod_nonneg _ (by omega)) (Int.emod_lt_of_pos _ hm0)⟩
    rw [hid_src1]
    exact sm1
  · have dp : DPut H1 a (.str "turn") (.int (t + 1)) (upd H1 a (.dK (bagKV g l' (t + 1) f))) := by
      have := DPut.k (k := Sum.inr "turn") (v := .int (t + 1)) ha1 (size_lt (by show 4 < 100000; decide))
      rw [bag_turn] at this
      exact this
    refine ⟨_, rfl, a, _, rfl, d3, _, _, rfl, rfl, _, dp, ?_⟩
    have ha2 := upd_same (H := H1) (a := a) (o := .dK (bagKV g l' (t + 1) f))
    have hg2 : upd H1 a (.dK (bagKV g l' (t + 1) f)) g = some (.lst (ds'.map V.int)) := by rw [upd_ne nag.symm]; exact hg1
    have sm2 : Same (hid a g H) (hid a g (upd H1 a (.dK (bagKV g l' (t + 1) f)))) := by rw [hid_src1]; exact sm1
    generalize upd H1 a (.dK (bagKV g l' (t + 1) f)) = H2 at *
    clear d1 d2 d3 d4
    obtain ⟨d1, d2, d3, d4⟩ := bag_get ha2
    have p2 : (0 : Int) < 10 ^ (18 : Int).toNat + 9 := by decide
    refine ⟨_, rfl, a, _, rfl, d3, ?_⟩
    refine ⟨_, rfl, a, _, rfl, d4, _, rfl, _, _, rfl, rfl, .inl ⟨by decide, by decide⟩, _, _, rfl, rfl, _, rfl, _, _, rfl, rfl, _, _, rfl, rfl, ⟨by decide, by decide, by omega⟩, _, _, rfl, rfl, .inl ⟨by omega, by omega⟩, _, rfl, _, _, rfl, rfl, .inl ⟨by decide, by decide⟩, _, _, rfl, rfl, ?_⟩
    generalize (f + 17 * (t + 1)) * (t + 1 + 29) ^ (2 : Int).toNat + 7919 * (t + 1) = big
    have b0 := Int.emod_nonneg big (show (2305843009213693951 : Int) ≠ 0 by decide)
    have b1 := Int.emod_lt_of_pos big (show (0 : Int) < 2305843009213693951 by decide)
    refine ⟨_, rfl, _, _, rfl, rfl, (by show (0 : Int) < 2305843009213693951; decide), _, _, rfl, rfl, ⟨by decide, by decide, by omega⟩, _, _, rfl, rfl, ⟨by decide, by decide, by decide⟩, _, _, rfl, rfl, _, _, rfl, rfl, p2, _, _, rfl, rfl, wide_div (b := 21) (by decide) (by decide) (by decide) (by decide), _, rfl, _, _, rfl, rfl, hm0, ?_⟩
    exact q H2 _ (Bdv.made sm2 ha ha2 hg2 (by omega) (by omega)) (Int.emod_nonneg _ (by omega)) (Int.emod_lt_of_pos _ hm0)

end
end Rn
namespace Rn
open PySem PySem.Spec PyProof.Rows L2
section
variable {P : Program} {w : World} {K : PySem.W.Frag} {mg : Str → Option Value} {base : Heap}
/-- the wait at a place, by number -/
def wAt (ws : List Int) (x : Int) : V := .int (ws.getD (x - 1).toNat 0)
def innCmp (ws : List Int) (n : Nat) (x : Int) : Bool := decide (wAt ws x = wAt ws (x % (n : Int)))
def innPl (ws : List Int) (n : Nat) : List Int := ((List.range ws.length).map fun i : Nat => (1 : Int) + (i : Int)).filter fun x => decide (x % (n : Int) ≠ 0)
theorem mem_innPl {ws : List Int} {n : Nat} {x : Int} : x ∈ innPl ws n ↔ ∃ i : Nat, x = (i : Int) ∧ 1 ≤ i ∧ i < ws.length + 1 ∧ i % n ≠ 0 := by
  unfold innPl
  rw [List.mem_filter, decide_eq_true_eq]
  constructor
  · rintro ⟨h1, h2⟩
    obtain ⟨i, hi, rfl⟩ := List.mem_map.mp h1
    have := List.mem_range.mp hi
    refine ⟨i + 1, by omega, by omega, by omega, fun z => h2 ?_⟩
    rw [show (1 : Int) + (i : Int) = ((i + 1 : Nat) : Int) by omega, ← Int.natCast_emod, z]
    rfl
  · rintro ⟨i, rfl, h1, h2, h3⟩
    refine ⟨List.mem_map.mpr ⟨i - 1, List.mem_range.mpr (by omega), by omega⟩, fun z => h3 ?_⟩
    rw [← Int.natCast_emod] at z
    omega
theorem wAt_wt {ws : List Int} {i : Nat} (h1 : 1 ≤ i) (h2 : i < ws.length + 1) : wt ws i = some (ws.getD (((i : Nat) : Int) - 1).toNat 0) := by
  unfold wt
  rw [show (((i : Nat) : Int) - 1).toNat = i - 1 by omega, List.getD_eq_getElem?_getD, List.getElem?_eq_getElem (by omega)]
  rfl
theorem inn_all {ws : List Int} {n : Nat} (h1 : 1 ≤ n) (hd : (ws.length + 1) % n = 0) : ((innPl ws n).map (innCmp ws n)).all id = innB ws (n : Int) := by
  rw [Bool.eq_iff_iff, per_iff, per_c, List.all_eq_true]
  have cmp : ∀ i : Nat, 1 ≤ i → i < ws.length + 1 → i % n ≠ 0 → (innCmp ws n (i : Int) = true ↔ wt ws i = wt ws (i % n)) := fun i i1 i2 i3 => by
    have l := Nat.mod_le i n
    unfold innCmp wAt
    rw [decide_eq_true_eq, ← Int.natCast_emod, wAt_wt i1 i2, wAt_wt (i := i % n) (by omega) (by omega)]
    constructor
    · intro z
      injection z with z
      rw [z]
    · intro z
      rw [Option.some.inj z]
  constructor
  · intro h
    have all : ∀ i : Nat, 1 ≤ i → i < ws.length + 1 → i % n ≠ 0 → wt ws i = wt ws (i % n) := fun i i1 i2 i3 =>
      (cmp i i1 i2 i3).mp (h _ (List.mem_map.mpr ⟨(i : Int), mem_innPl.mpr ⟨i, rfl, i1, i2, i3⟩, rfl⟩))
    exact ⟨h1, Nat.dvd_of_mod_eq_zero hd, fun i j i1 i2 j1 j2 e z => by rw [all i i1 i2 z, all j j1 j2 (by rw [← e]; exact z), e]⟩
  · rintro ⟨_, _, h⟩ b hb
    obtain ⟨x, hx, rfl⟩ := List.mem_map.mp hb
    obtain ⟨i, rfl, i1, i2, i3⟩ := mem_innPl.mp hx
    have l := Nat.mod_le i n
    exact (cmp i i1 i2 i3).mpr (h i (i % n) i1 i2 (by omega) (by omega) (by rw [Nat.mod_mod]) i3)
def sp_law_is_inner (K : PySem.W.Frag) : Sp := fun vs H Q _ => ∃ (a : Addr) (ws : List Int) (n : Nat), vs = [.ref a, .int (n : Int)] ∧ SqL K H a (ws.map V.int) ∧ ws.length ≤ 20000 ∧ 1 ≤ n ∧ n < 1000000 ∧ ∀ H', Same H H' → Q (.bl (innB ws (n : Int))) H'
theorem ok_law_is_inner (T : Txt K mg) : FnOk P w K mg base CX0 1 T.f_law_is_inner T.d_law_is_inner ["waits_now", "number"] (sp_law_is_inner K) := by
  refine T.F_law_is_inner.ok sc_law_is_inner (fun vs H Q E h => ?_) (fun cdv A outer s H vs Q E hr h => ?_)
  · obtain ⟨a, ws, n, rfl, _⟩ := h
    rfl
  obtain ⟨a, ws, n, rfl, hS, hl, n1, n2, q⟩ := h
  refine ⟨_, (pss_cons (ps_set (i := 2) sc_law_is_inner.nd rfl (Or.inl rfl) (pe_op op_add (pe_callB call_len_seq (by rfl) T.m_len PySem.boot_len (pa_cons (pv 0) pa_nil)) pe_int))
      (pss_cons (ps_if (pt_cmpR op_ne (pe_op op_mod (pv 2) (pv 1)) pe_int (nomark _))
      (pss_one (ps_ret pe_bl))
      pss_nil)
      (pss_cons (ps_setLc (i := 3) (own := [("place", 4)]) (g := gName 4)  rfl sc_law_is_inner.nd rfl rfl (sw_true rfl rfl rfl (by decide +kernel)) (pi_range2 (by rfl) T.m_range (pa_cons pe_int (pa_cons (pv 2) pa_nil))) (blkOk_by (N := ["waits_now", "number", "many", "places", "place"]) (sc := defScope s_law_is_inner) (by decide +kernel)) (fun _ _ _ _ _ => (pg_name (i := 4) sc_law_is_inner.nd rfl (Or.inl rfl))) (fun _ _ _ _ _ => (pts_one (pt_cmpR op_ne (pe_op op_mod (pv 4) (pv 1)) pe_int (nomark _)))) (fun _ _ _ _ _ => (pv 4)))
      (pss_one (ps_ret (pe_callB (cr_all rfl) (by rfl) T.m_all (by decide +kernel) (pa_cons (pe_lc (own := [("place", 4)]) (g := gName 4) (tt := tYes) rfl sc_law_is_inner.nd (pi_list (pv 3)) (blkOk_by (N := ["waits_now", "number", "many", "places", "place"]) (sc := defScope s_law_is_inner) (by decide +kernel)) (fun _ _ _ _ _ => (pg_name (i := 4) sc_law_is_inner.nd rfl (Or.inl rfl))) (fun _ _ _ _ _ => pts_nil) (fun _ _ _ _ _ => (pe_cmpR op_eq (pe_ix (ix_listK (K := K) rfl) (pv 0) (pe_op op_sub (pv 4) pe_int) (fun _ _ => rfl)) (pe_ix (ix_listK (K := K) rfl) (pv 0) (pe_op op_sub (pe_op op_mod (pv 4) (pv 1)) pe_int) (fun _ _ => rfl)) (nomark _)))) pa_nil))))))), ?_⟩
  have lw : (ws.map V.int).length = ws.length := List.length_map ..
  refine ⟨_, rfl, a, _, rfl, .inl hS, _, _, rfl, rfl, ?_⟩
  refine ⟨_, rfl, _, rfl, _, _, rfl, rfl, by omega, rfl, _, rfl, ?_⟩
  have em : (((ws.map V.int).length : Nat) : Int) + 1 = ((ws.length + 1 : Nat) : Int) := by rw [lw]; omega
  by_cases hd : (ws.length + 1) % n = 0
  · have e0 : ((((ws.map V.int).length : Nat) : Int) + 1) % (n : Int) = 0 := by rw [em, ← Int.natCast_emod, hd]; rfl
    refine ite2 (fun e => ?_) (fun _ => ?_)
    · exfalso
      have e2 : (!decide (V.int (((((ws.map V.int).length : Nat) : Int) + 1) % (n : Int)) = V.int 0)) = true := e
      rw [e0, decide_eq_true rfl] at e2
      cases e2
    refine ⟨_, rfl, _, _, rfl, ⟨by decide, by decide, by omega, by omega⟩, fun D hD => ?_⟩
    refine lc_filter (lo := 1) (n := _) (fun x => decide (x % (n : Int) ≠ 0)) hD (by omega) (fun i H2 TT FF hi sm hT hF => ?_) (fun H2 s2 hd2 => ?_)
    · refine ⟨rfl, _, rfl, _, rfl, _, _, rfl, rfl, by omega, rfl, _, rfl, ite2 (fun e => ⟨_, rfl, hT (decide_eq_true fun z => ?_)⟩) (fun e => hF (decide_eq_false fun z => e ?_))⟩
      · have e2 : (!decide (V.int ((1 + (i : Int)) % (n : Int)) = V.int 0)) = true := e
        rw [z, decide_eq_true rfl] at e2
        cases e2
      · show (!decide (V.int ((1 + (i : Int)) % (n : Int)) = V.int 0)) = true
        rw [decide_eq_false (fun y => z (by injection y))]
        rfl
    rw [show ((((ws.map V.int).length : Nat) : Int) + 1 - 1).toNat = ws.length by omega] at hd2
    have hd2 : H2 D = some (.lst ((innPl ws n).map V.int)) := hd2
    have lp : (innPl ws n).length ≤ 20000 := by
      unfold innPl
      have := List.length_filter_le (fun x => decide (x % (n : Int) ≠ 0)) ((List.range ws.length).map fun i : Nat => (1 : Int) + (i : Int))
      rw [List.length_map, List.length_range] at this
      omega
    refine ⟨_, rfl, D, rfl, ⟨_, sql hd2⟩, fun E1 hE1 => ?_⟩
    refine lc_mapV (ns := innPl ws n) (fun x => .bl (innCmp ws n x)) hE1 (sql hd2) (by omega) (fun j x H3 TT hx s3 hT => ?_) (fun H3 s3 hd3 => ?_) gName_mono
    · obtain ⟨i, rfl, i1, i2, i3⟩ := mem_innPl.mp (List.mem_of_getElem? hx)
      have l := Nat.mod_le i n
      have S3 := (s2.trans s3).seq hS
      have g1 : atI (ws.map V.int) ((i : Int) - 1) = some (wAt ws (i : Int)) := by
        rw [show (i : Int) - 1 = ((i - 1 : Nat) : Int) by omega]
        refine atI_nat ?_
        rw [List.getElem?_map, List.getElem?_eq_getElem (by omega)]
        unfold wAt
        rw [show (((i : Nat) : Int) - 1).toNat = i - 1 by omega, List.getD_eq_getElem?_getD, List.getElem?_eq_getElem (by omega)]
        rfl
      have g2 : atI (ws.map V.int) ((i : Int) % (n : Int) - 1) = some (wAt ws ((i : Int) % (n : Int))) := by
        rw [← Int.natCast_emod, show ((i % n : Nat) : Int) - 1 = ((i % n - 1 : Nat) : Int) by omega]
        refine atI_nat ?_
        rw [List.getElem?_map, List.getElem?_eq_getElem (by omega)]
        unfold wAt
        rw [show (((i % n : Nat) : Int) - 1).toNat = i % n - 1 by omega, List.getD_eq_getElem?_getD, List.getElem?_eq_getElem (by omega)]
        rfl
      exact ⟨rfl, _, rfl, _, rfl, _, _, rfl, rfl, a, _, _, _, rfl, rfl, S3, g1, _, rfl, _, rfl, _, rfl, _, _, rfl, rfl, by omega, _, _, rfl, rfl, a, _, _, _, rfl, rfl, S3, g2, rfl, hT H3 (Same.refl _)⟩
    refine ⟨E1, (innPl ws n).map (innCmp ws n), rfl, ?_, ?_⟩
    · rw [List.map_map]
      exact sql hd3
    · rw [inn_all n1 hd]
      exact q _ (s2.trans s3)
  · have e0 : ((((ws.map V.int).length : Nat) : Int) + 1) % (n : Int) ≠ 0 := by rw [em, ← Int.natCast_emod]; omega
    have hi : innB ws (n : Int) = false := inn_false fun z => hd (Nat.mod_eq_zero_of_dvd z.2.1)
    rw [hi] at q
    refine ite2 (fun _ => q H (Same.refl _)) (fun e => absurd ?_ e)
    show (!decide (V.int (((((ws.map V.int).length : Nat) : Int) + 1) % (n : Int)) = V.int 0)) = true
    rw [decide_eq_false (fun y => e0 (by injection y))]
    rfl

end
end Rn
namespace Rn
open PySem PySem.Spec PyProof.Rows L2
section
variable {P : Program} {w : World} {K : PySem.W.Frag} {mg : Str → Option Value} {base : Heap}
def sp_law_all_lists (K : PySem.W.Frag) : Sp := fun vs H Q _ => ∃ (k m : Nat), vs = [.int (k : Int), .int (m : Int)] ∧ 1 ≤ k ∧ k ≤ 5 ∧ m ≤ 11 ∧ (∀ i, i ≤ m → k ^ i ≤ 2048) ∧
  ∀ H' r ps, Same H H' → H r = none → H' r = some (.lst (ps.map V.ref)) → ListsAt H' ps (allL k m) → (∀ p ∈ ps, H p = none) → Q (.ref r) H'
theorem ok_law_all_lists (T : Txt K mg) : FnOk P w K mg base CX0 1 T.f_law_all_lists T.d_law_all_lists ["kinds_now", "size"] (sp_law_all_lists K) := by
  refine T.F_law_all_lists.ok sc_law_all_lists (fun vs H Q E h => ?_) (fun cdv A outer s H vs Q E hr h => ?_)
  · obtain ⟨k, m, rfl, _⟩ := h
    rfl
  obtain ⟨k, m, rfl, k1, k5, m11, hpow, q⟩ := h
  refine ⟨_, (pss_cons (ps_set (i := 2) sc_law_all_lists.nd rfl (Or.inl rfl) (pe_lst (pa_cons (pe_lst pa_nil) pa_nil)))
      (pss_cons (ps_for PassesOwn.never rfl (pi_range1 (by rfl) T.m_range (pa_cons (pv 1) pa_nil)) (pg_name (i := 3) sc_law_all_lists.nd rfl (Or.inl rfl))
      (pss_cons (ps_set (i := 4) sc_law_all_lists.nd rfl (Or.inl rfl) (pe_lst pa_nil))
      (pss_cons (ps_for PassesOwn.never rfl (pi_list (pv 2)) (pg_name (i := 5) sc_law_all_lists.nd rfl (Or.inr rfl))
      (pss_one (ps_expr (pe_bm PySem.F.plainAttrs_list PySem.F.slot_list_extend PySem.F.type_list_extend mt_extend (pv 4) (pa_cons (pe_lc (own := [("wait", 6)]) (g := gName 6) (tt := tYes) rfl sc_law_all_lists.nd (pi_range1 (by rfl) T.m_range (pa_cons (pv 0) pa_nil)) (blkOk_by (N := ["kinds_now", "size", "found", "number", "longer", "waits_now", "wait"]) (sc := defScope s_law_all_lists) (by decide +kernel)) (fun _ _ _ _ _ => (pg_name (i := 6) sc_law_all_lists.nd rfl (Or.inl rfl))) (fun _ _ _ _ _ => pts_nil) (fun _ _ _ _ _ => (pe_op op_cat (pv 5) (pe_lst (pa_cons (pv 6) pa_nil))))) pa_nil)))))
      (pss_one (ps_set (i := 2) sc_law_all_lists.nd rfl (Or.inl rfl) (pv 4))))))
      (pss_one (ps_ret (pv 2))))), ?_⟩
  refine ⟨Nat.zero_le _, fun e he => ⟨size_le (by show 1 ≤ 100000; decide), fun r hr' => ?_⟩⟩
  have se := same_new (o := .lst []) he
  have sr := same_new (o := .lst [.ref e]) hr'
  have ee := upd_same (H := H) (a := e) (o := .lst [])
  have er := upd_same (H := upd H e (.lst [])) (a := r) (o := .lst [.ref e])
  have ee2 := sr _ _ ee
  generalize upd (upd H e (.lst [])) r (.lst [.ref e]) = H1 at *
  have fr0 := se.free hr'
  refine ⟨_, rfl, _, rfl, by omega, by omega, ?_⟩
  refine for_range (lo := 0) (n := _) (fun i σ H' => ∃ r ps y3 y4 y5 y6, σ = [some (.int (k : Int)), some (.int (m : Int)), some (.ref r), y3, y4, y5, y6] ∧ Same H H' ∧ H r = none ∧ H' r = some (.lst (ps.map V.ref)) ∧ ListsAt H' ps (allL k i) ∧ (∀ p ∈ ps, H p = none))
    ⟨r, [e], none, none, none, none, rfl, se.trans sr, fr0, er, .cons ee2 .nil, fun p hp => by rw [List.mem_singleton.mp hp]; exact he⟩ (fun i σ H2 hi h => ?_) (fun σ H2 h => ?_)
  · clear fr0 ee ee2 er se sr hr' he
    obtain ⟨r, ps, y3, y4, y5, y6, rfl, sm, fr, hr2, hps, hfr⟩ := h
    have him : i + 1 ≤ m := by omega
    have lps : ps.length = k ^ i := by rw [hps.len, len_allL]
    have p1 := hpow i (by omega)
    have p2 := hpow (i + 1) him
    refine ⟨Nat.zero_le _, fun d hd => ?_⟩
    have sd := same_new (o := .lst []) hd
    have ed := upd_same (H := H2) (a := d) (o := .lst [])
    generalize upd H2 d (.lst []) = H3 at *
    have fd : H d = none := sm.free hd
    have ned : ∀ p ∈ ps, p ≠ d := fun p hp z => by
      obtain ⟨o, ho⟩ := hps.some hp
      rw [z, hd] at ho
      cases ho
    have rd : r ≠ d := fun z => by rw [z, hd] at hr2; cases hr2
    refine ⟨_, rfl, r, rfl, ⟨_, sql (sd _ _ hr2)⟩, for_list (xs := ps.map V.ref) (fun j σ H' => ∃ qs y5 y6, σ = [some (.int (k : Int)), some (.int (m : Int)), some (.ref r), some (.int (0 + (i : Int))), some (.ref d), y5, y6] ∧ Same H2 H' ∧ H' d = some (.lst (qs.map V.ref)) ∧ (∀ p ∈ qs, p ≠ d ∧ H p = none) ∧ qs.length = k * j ∧
        ListsAt H' qs (((allL k i).take j).flatMap fun ws => (List.range k).map fun x : Nat => ws ++ [(x : Int)]))
      ⟨[], y5, y6, rfl, sd, ed, (fun _ z => nomatch z), by rw [Nat.mul_zero]; rfl, .nil⟩ (fun j σ H' _ h => by obtain ⟨_, _, _, _, s', _⟩ := h; exact sql (s' _ _ hr2)) (fun j x σ H4 hx h => ?_) (fun σ H4 h => ?_)⟩
    · obtain ⟨qs, y5, y6, rfl, s4, hd4, hqs, lqs, hL⟩ := h
      rw [List.getElem?_map] at hx
      obtain ⟨p, hp, rfl⟩ := Option.map_eq_some_iff.mp hx
      have hj : j < ps.length := (List.getElem?_eq_some_iff.mp hp).1
      obtain ⟨ws, hw, hpw⟩ := hps.get hp
      have lw := (mem_allL.mp (List.mem_of_getElem? hw)).1
      have hp4 := s4 _ _ hpw
      have kj : k * (j + 1) ≤ 2048 := by
        have : k * (j + 1) ≤ k * k ^ i := Nat.mul_le_mul_left _ (by omega)
        have e : k ^ (i + 1) = k * k ^ i := by rw [Nat.pow_succ, Nat.mul_comm]
        exact Nat.le_trans this (by rw [← e]; exact p2)
      refine ⟨_, rfl, .inl ⟨rfl, _, sql hd4⟩, ?_⟩
      refine ⟨_, rfl, _, rfl, by omega, by omega, fun D hD => ?_⟩
      refine lc_range (lo := 0) (n := _) (fun l H' => ∃ us, Same H4 H' ∧ H' D = some (.lst (us.map V.ref)) ∧ (∀ p ∈ us, p ≠ D ∧ H4 p = none) ∧ us.length = l ∧ ListsAt H' us ((List.range l).map fun x : Nat => ws ++ [(x : Int)]))
        ⟨[], same_new hD, upd_same, (fun _ z => nomatch z), rfl, .nil⟩ (fun l H5 hl h => ?_) (fun H5 h => ?_)
      · obtain ⟨us, s5, hd5, hus, lus, hLu⟩ := h
        refine ⟨rfl, yes_thn ⟨_, rfl, _, rfl, size_le (by show 1 ≤ 100000; decide), fun b hb => ?_⟩⟩
        have sb := same_new (o := .lst [.int (0 + (l : Int))]) hb
        have eb := upd_same (H := H5) (a := b) (o := .lst [.int (0 + (l : Int))])
        generalize upd H5 b (.lst [.int (0 + (l : Int))]) = H6 at *
        refine ⟨p, b, _, _, rfl, rfl, sb _ _ (s5 _ _ hp4), eb, size_le (by rw [List.length_map]; show ws.length + 1 ≤ 100000; omega), fun c hc => ?_⟩
        have sc := same_new (o := .lst (ws.map V.int ++ [.int (0 + (l : Int))])) hc
        have ec := upd_same (H := H6) (a := c) (o := .lst (ws.map V.int ++ [.int (0 + (l : Int))]))
        have s56 := sb.trans sc
        have cD : c ≠ D := fun z => by
          have := sb _ _ hd5
          rw [z, this] at hc
          cases hc
        have c4 : H4 c = none := (s5.trans sb).free hc
        generalize upd H6 c (.lst (ws.map V.int ++ [.int (0 + (l : Int))])) = H7 at *
        refine ⟨_, s56 _ _ hd5, size_lt (by rw [List.length_map]; omega), us ++ [c], same_keep (s5.trans s56) hD, by rw [upd_same, List.map_append]; rfl, fun x hx => ?_, by rw [List.length_append, lus]; rfl, ?_⟩
        · rcases List.mem_append.mp hx with z | z
          · exact hus x z
          · rw [List.mem_singleton.mp z]; exact ⟨cD, c4⟩
        · rw [List.range_succ, List.map_append]
          refine ((hLu.same s56).keep fun x hx => (hus x hx).1).app (.cons ?_ .nil)
          rw [upd_ne cD, ec, List.map_append, Int.zero_add]
          rfl
      · obtain ⟨us, s5, hd5, hus, lus, hLu⟩ := h
        rw [show ((k : Int)).toNat = k from Int.toNat_natCast k] at lus hLu
        have s25 := s4.trans s5
        have usd : ∀ p ∈ us, p ≠ d := fun p hp z => by
          have := (hus p hp).2
          rw [z, hd4] at this
          cases this
        have hsz : (qs.map V.ref).length + (us.map V.ref).length ≤ sizeLine := size_le (by rw [List.length_map, List.length_map, lqs, lus]; rw [Nat.mul_succ] at kj; omega)
        refine ⟨d, D, _, _, rfl, rfl, s5 _ _ hd4, hd5, hsz, qs ++ us, _, _, rfl, same_keep s25 hd, by rw [upd_same, List.map_append], fun p hp => ?_, by rw [List.length_append, lqs, lus, Nat.mul_succ], ?_⟩
        · rcases List.mem_append.mp hp with z | z
          · exact hqs p z
          · exact ⟨usd p z, (sm.trans s4).free (hus p z).2⟩
        · rw [List.take_add_one, hw, Option.toList_some, List.flatMap_append, List.flatMap_cons, List.flatMap_nil, List.append_nil]
          exact ((hL.same s5).keep fun p hp => (hqs p hp).1).app (hLu.keep usd)
    · obtain ⟨qs, y5, y6, rfl, s4, hd4, hqs, lqs, hL⟩ := h
      rw [List.length_map, hps.len, List.take_length] at hL
      exact ⟨_, rfl, d, qs, _, _, _, _, rfl, sm.trans s4, fd, hd4, hL, fun p hp => (hqs p hp).2⟩
  · obtain ⟨r, ps, y3, y4, y5, y6, rfl, sm, fr, hr2, hps, hfr⟩ := h
    rw [show ((m : Int)).toNat = m from Int.toNat_natCast m] at hps
    exact ⟨_, rfl, q H2 r ps sm fr hr2 hps hfr⟩

end
end Rn
namespace Rn
open PySem PySem.Spec PyProof.Rows L2
section
variable {P : Program} {w : World} {K : PySem.W.Frag} {mg : Str → Option Value} {base : Heap}
def uns01 (ws : List Int) : Int := if unsB ws then 1 else 0
theorem count_uns : ∀ wss : List (List Int), (wss.map uns01).sum = ((wss.filter unsB).length : Int)
  | [] => rfl
  | ws :: wss => by
    rw [List.map_cons, List.sum_cons, count_uns wss, List.filter_cons]
    unfold uns01
    cases unsB ws with
    | true =>
      show (1 : Int) + _ = ((ws :: wss.filter unsB).length : Int)
      rw [List.length_cons]
      omega
    | false =>
      show (0 : Int) + _ = ((wss.filter unsB).length : Int)
      omega
theorem uns_any {ws : List Int} {n : Nat} (h : ws.length + 1 = n) : (decide (1 < n) && !((List.range (n - 2)).map fun i : Nat => innB ws ((2 : Int) + (i : Int))).any id) = unsB ws := by
  rw [Bool.eq_iff_iff, uns_iff, Bool.and_eq_true, decide_eq_true_eq, Bool.not_eq_true']
  unfold Uns
  constructor
  · rintro ⟨a, b⟩
    refine ⟨by omega, fun j j1 j2 => ?_⟩
    rw [List.any_eq_false] at b
    have := b (innB ws ((2 : Int) + ((j - 2 : Nat) : Int))) (List.mem_map.mpr ⟨j - 2, List.mem_range.mpr (by omega), rfl⟩)
    rw [show (2 : Int) + ((j - 2 : Nat) : Int) = (j : Int) by omega] at this
    simpa using this
  · rintro ⟨a, b⟩
    refine ⟨by omega, ?_⟩
    rw [List.any_eq_false]
    intro x hx
    obtain ⟨i, hi, rfl⟩ := List.mem_map.mp hx
    have := List.mem_range.mp hi
    have := b (i + 2) (by omega) (by omega)
    rw [show ((i + 2 : Nat) : Int) = (2 : Int) + (i : Int) by omega] at this
    rw [this]
    exact Bool.false_ne_true
theorem cntF_le {k n : Nat} (h1 : 1 ≤ n) (hp : k ^ (n - 1) ≤ 2048) : 0 ≤ cntF (k : Int) n ∧ cntF (k : Int) n ≤ 2048 := by
  rw [← uns_count h1]
  have := List.length_filter_le unsB (allL k (n - 1))
  rw [len_allL] at this
  omega
theorem size_at {k : Nat} (h1 : 1 ≤ k) (h5 : k ≤ 5) : ∃ x : Int, atI (([12, 12, 7, 5, 5] : List Int).map V.int) ((k : Int) - 1) = some (.int x) ∧ 1 ≤ x ∧ x ≤ 12 ∧ ∀ i : Nat, (i : Int) + 1 ≤ x → k ^ i ≤ 2048 := by
  have pw : ∀ (i m c : Nat), 1 ≤ k → i ≤ m → k ^ m ≤ 2048 → k ^ i ≤ 2048 := fun i m c h a b => Nat.le_trans (Nat.pow_le_pow_right h a) b
  have : k = 1 ∨ k = 2 ∨ k = 3 ∨ k = 4 ∨ k = 5 := by omega
  rcases this with rfl | rfl | rfl | rfl | rfl
  · exact ⟨12, rfl, by decide, by decide, fun i hi => pw i 11 0 h1 (by omega) (by decide)⟩
  · exact ⟨12, rfl, by decide, by decide, fun i hi => pw i 11 0 h1 (by omega) (by decide)⟩
  · exact ⟨7, rfl, by decide, by decide, fun i hi => pw i 6 0 h1 (by omega) (by decide)⟩
  · exact ⟨5, rfl, by decide, by decide, fun i hi => pw i 4 0 h1 (by omega) (by decide)⟩
  · exact ⟨5, rfl, by decide, by decide, fun i hi => pw i 4 0 h1 (by omega) (by decide)⟩
def sp_law (K : PySem.W.Frag) : Sp := fun vs H Q _ => ∃ (a : Addr) (ns : List Int), vs = [.ref a] ∧ SqL K H a (ns.map V.int) ∧ ns.length ≤ 63 ∧ ∀ H', Q (.bl true) H'
abbrev lvl_law : Nat := 4
theorem ok_law (T : Txt K mg) : FnG P w K mg base lvl_law T.f_law T.d_law ["script"] (sp_law K) := by
  have G_law_bag := (ok_law_bag (P := P) (w := w) (base := base) T).mono (by decide : 1 ≤ 3)
  have G_law_draw := (ok_law_draw (P := P) (w := w) (base := base) T).mono (by decide : 1 ≤ 3)
  have G_law_all_lists := (ok_law_all_lists (P := P) (w := w) (base := base) T).mono (by decide : 1 ≤ 3)
  have G_law_is_inner := (ok_law_is_inner (P := P) (w := w) (base := base) T).mono (by decide : 1 ≤ 3)
  have G_count_unsplittable := (ok_count_unsplittable (P := P) (w := w) (base := base) T)
  refine okG T.F_law sc_law (fun cdv A outer s H vs Q E gu hr h => ?_)
  obtain ⟨sa, ns, rfl, hS, hl, q⟩ := h
  refine ⟨_, (pss_cons (ps_set (i := 1) sc_law.nd rfl (Or.inl rfl) (pe_call G_law_bag hr (by rfl) T.g_law_bag T.F_law_bag.kp T.b_law_bag .nil pass0 (pa_cons (pv 0) pa_nil)))
      (pss_cons (ps_for PassesOwn.never rfl (pi_range1 (by rfl) T.m_range (pa_cons (pe_op op_add pe_int (pe_callB (call_min2 rfl) (by rfl) T.m_min (by decide +kernel) (pa_cons pe_int (pa_cons (pe_callB call_len_seq (by rfl) T.m_len PySem.boot_len (pa_cons (pv 0) pa_nil)) pa_nil)))) pa_nil)) (pg_name (i := 2) sc_law.nd rfl (Or.inl rfl))
      (pss_cons (ps_set (i := 3) sc_law.nd rfl (Or.inl rfl) (pe_op op_add pe_int (pe_call G_law_draw hr (by rfl) T.g_law_draw T.F_law_draw.kp T.b_law_draw .nil pass0 (pa_cons (pv 1) (pa_cons pe_int pa_nil)))))
      (pss_cons (ps_set (i := 4) sc_law.nd rfl (Or.inl rfl) (pe_op op_add pe_int (pe_call G_law_draw hr (by rfl) T.g_law_draw T.F_law_draw.kp T.b_law_draw .nil pass0 (pa_cons (pv 1) (pa_cons (pe_ix ix_tup (pe_tup (pa_cons pe_int (pa_cons pe_int (pa_cons pe_int (pa_cons pe_int (pa_cons pe_int pa_nil)))))) (pe_op op_sub (pv 3) pe_int) (fun _ _ => rfl)) pa_nil)))))
      (pss_cons (ps_set (i := 5) sc_law.nd rfl (Or.inl rfl) pe_int)
      (pss_cons (ps_for PassesOwn.never rfl (pi_list (pe_call G_law_all_lists hr (by rfl) T.g_law_all_lists T.F_law_all_lists.kp T.b_law_all_lists .nil pass0 (pa_cons (pv 3) (pa_cons (pe_op op_sub (pv 4) pe_int) pa_nil)))) (pg_name (i := 6) sc_law.nd rfl (Or.inr rfl))
      (pss_cons (ps_setLc (i := 7) (own := [("number", 8)]) (g := gName 8) (tt := tYes) rfl sc_law.nd rfl rfl (sw_true rfl rfl rfl (by decide +kernel)) (pi_range2 (by rfl) T.m_range (pa_cons pe_int (pa_cons (pv 4) pa_nil))) (blkOk_by (N := ["script", "bag", "turn", "kinds_now", "size", "due", "waits_now", "inner_now", "number"]) (sc := defScope s_law) (by decide +kernel)) (fun _ _ _ _ _ => (pg_name (i := 8) sc_law.nd rfl (Or.inl rfl))) (fun _ _ _ _ _ => pts_nil) (fun _ _ _ _ _ => (pe_call G_law_is_inner hr (by rfl) T.g_law_is_inner T.F_law_is_inner.kp T.b_law_is_inner .nil pass0 (pa_cons (pv 6) (pa_cons (pv 8) pa_nil)))))
      (pss_one (ps_aug (i := 5) sc_law.nd rfl (Or.inl rfl) (pe_callTy call_int1 (by rfl) T.m_int (by decide +kernel) (pa_cons (pe_cutE (pe_and (pe_cmpR op_gt (pv 4) pe_int (nomark _)) (pe_one (pe_not (pe_callB (cr_any rfl) (by rfl) T.m_any (by decide +kernel) (pa_cons (pv 7) pa_nil)))))) pa_nil)) ip_add))))
      (pss_cons (ps_if (pt_cmpR op_ne (pe_callB call_reprS (by rfl) T.m_repr (by decide +kernel) (pa_cons (pe_call G_count_unsplittable hr (by rfl) T.g_count_unsplittable T.F_count_unsplittable.kp T.b_count_unsplittable .nil pass0 (pa_cons (pv 4) (pa_cons (pv 3) pa_nil))) pa_nil)) (pe_callB call_reprS (by rfl) T.m_repr (by decide +kernel) (pa_cons (pv 5) pa_nil)) (nomark _))
      (pss_one (ps_ret pe_bl))
      pss_nil)
      (pss_one (ps_if (PW.pt (pw_or (pt_cmpR op_ne (pe_callKw G_count_unsplittable hr (by rfl) T.g_count_unsplittable T.F_count_unsplittable.kp T.kb_count_unsplittable pass0 (pk_cons (pv 3) (pk_cons (pv 4) pk_nil))) (pv 5) (nomark _)) (pw_or1 (pt_cmpR op_ne (pe_call G_count_unsplittable hr (by rfl) T.g_count_unsplittable T.F_count_unsplittable.kp T.b_count_unsplittable .nil pass0 (pa_cons pe_int (pa_cons (pv 3) pa_nil))) pe_int (nomark _)))))
      (pss_one (ps_ret pe_bl))
      pss_nil))))))))
      (pss_one (ps_ret pe_bl)))), ?_⟩
  refine ⟨_, rfl, sa, ns, rfl, hS, hl, fun H1 a g s1 _ _ S1 => ?_⟩
  have hlen : (ns.map V.int).length ≤ 63 := by rw [List.length_map]; exact hl
  have hmin : ∀ z : Int, (if z < 2 then z else 2) ≤ 2 := fun z => by split <;> omega
  have hmin0 : 0 ≤ (if (((ns.map V.int).length : Nat) : Int) < 2 then (((ns.map V.int).length : Nat) : Int) else 2) := by split <;> omega
  have hm1 := hmin (((ns.map V.int).length : Nat) : Int)
  refine ⟨_, rfl, sa, _, rfl, .inl (s1.seq hS), _, _, rfl, _, _, rfl, rfl, _, rfl, by omega, by omega, ?_⟩
  refine for_range (lo := 0) (n := _)
    (fun i σ H' => (∃ y2 y3 y4 y5 y6 y7 y8, σ = [some (.ref sa), some (.ref a), y2, y3, y4, y5, y6, y7, y8]) ∧ Bdv a g (100 * i) H1 H') ⟨⟨_, _, _, _, _, _, _, rfl⟩, Bdv.refl⟩ (fun i σ H2 hi h => ?_) (fun σ H2 h => ?_)
  · obtain ⟨⟨y2, y3, y4, y5, y6, y7, y8, rfl⟩, A2⟩ := h
    have hi' : (i : Int) < 13 := by omega
    have S2 := A2.src 0 S1
    -- kinds_now
    refine ⟨_, rfl, a, g, _, 5, rfl, S2, by omega, by decide, by decide, fun H3 r1 A3 l3 u3 => ⟨_, _, rfl, rfl, ?_⟩⟩
    have S3 := A3.src _ S2
    obtain ⟨k, ek⟩ : ∃ k : Nat, 1 + r1 = (k : Int) := ⟨(1 + r1).toNat, by omega⟩
    have k1 : 1 ≤ k := by omega
    have k5 : k ≤ 5 := by omega
    show tSeq _ _ _ (List.set _ _ (some (.int (1 + r1)))) _
    rw [ek]
    -- size
    refine ⟨_, rfl, size_le (by show 5 ≤ 100000; decide), fun t ht => ?_⟩
    have nt := S3.new1 ht
    have B4 : Bdv a g 1 H2 (upd H3 t (.tup [.int 12, .int 12, .int 7, .int 5, .int 5])) := A3.trans (Bdv.of (same_new ht)) (by decide)
    have et : upd H3 t (.tup [.int 12, .int 12, .int 7, .int 5, .int 5]) t = some (.tup (([12, 12, 7, 5, 5] : List Int).map V.int)) := upd_same
    generalize upd H3 t (.tup [.int 12, .int 12, .int 7, .int 5, .int 5]) = H4 at *
    have S4 := B4.src _ S2
    obtain ⟨lim, hat, lim1, lim12, hpow⟩ := size_at k1 k5
    refine ⟨_, rfl, _, _, rfl, rfl, t, _, _, .int lim, rfl, rfl, sqt et, hat, a, g, _, lim, rfl, S4, by omega, by omega, by omega, fun H5 r2 A5 l5 u5 => ⟨_, _, rfl, rfl, ?_⟩⟩
    have B5 : Bdv a g 2 H2 H5 := B4.trans A5 (by decide)
    obtain ⟨n, en⟩ : ∃ n : Nat, 1 + r2 = (n : Int) := ⟨(1 + r2).toNat, by omega⟩
    have n1 : 1 ≤ n := by omega
    have n12 : n ≤ 12 := by omega
    have hp2 : ∀ i, i ≤ n - 1 → k ^ i ≤ 2048 := fun i hi => hpow i (by omega)
    show tSeq _ _ _ (List.set _ _ (some (.int (1 + r2)))) _
    rw [en]
    -- all lists
    refine ⟨_, rfl, _, rfl, _, _, rfl, rfl, k, n - 1, ?_, k1, k5, by omega, hp2, fun H6 r ps s6 fr hr6 hL hf => ?_⟩
    · rw [show ((n - 1 : Nat) : Int) = (n : Int) - 1 by omega]
      rfl
    refine ⟨r, rfl, ⟨_, sql hr6⟩, for_list (xs := ps.map V.ref) (fun j σ H' => (∃ y6 y7 y8, σ = [some (.ref sa), some (.ref a), some (.int (0 + (i : Int))), some (.int (k : Int)), some (.int (n : Int)), some (.int (((allL k (n - 1)).take j).map uns01).sum), y6, y7, y8]) ∧ Same H6 H')
      ⟨⟨_, _, _, rfl⟩, Same.refl _⟩ (fun j σ H' _ h => sql (h.2 _ _ hr6)) (fun j x σ H7 hx h => ?_) (fun σ H7 h => ?_)⟩
    · obtain ⟨⟨y6, y7, y8, rfl⟩, s7⟩ := h
      rw [List.getElem?_map] at hx
      obtain ⟨p, hp, rfl⟩ := Option.map_eq_some_iff.mp hx
      obtain ⟨ws, hw, hpw⟩ := hL.get hp
      have lw := (mem_allL.mp (List.mem_of_getElem? hw)).1
      have hp7 := s7 _ _ hpw
      -- inner_now
      refine ⟨_, rfl, _, _, rfl, ⟨by decide, by decide, by omega, by omega⟩, fun D hD => ?_⟩
      refine lc_mapR (lo := 2) (n := _) (fun x => .bl (innB ws x)) hD (by omega) (fun l H8 TT hl s8 hT => ?_) (fun H8 s8 hd8 => ?_) gName_mono
      · refine ⟨rfl, _, rfl, _, rfl, p, ws, l + 2, ?_, sql (s8 _ _ hp7), by omega, by omega, by omega, fun H9 s9 => ?_⟩
        · rw [show ((l + 2 : Nat) : Int) = 2 + (l : Int) by omega]
          rfl
        · have := hT H9 s9
          rw [show (2 : Int) + (l : Int) = ((l + 2 : Nat) : Int) by omega] at this
          exact this
      rw [show ((n : Int) - 2).toNat = n - 2 by omega] at hd8
      -- due
      refine ⟨_, rfl, fun v H' => v = .bl (unsB ws) ∧ H' = H8, ?_, fun v H' hv => ?_⟩
      · refine ⟨_, rfl, _, _, rfl, rfl, _, rfl, ?_⟩
        have un := uns_any (ws := ws) (n := n) (by omega)
        by_cases e : 1 < n
        · rw [decide_eq_true e, Bool.true_and] at un
          refine ite2 (fun _ => ?_) (fun z => absurd (decide_eq_true (by omega)) z)
          refine ⟨_, rfl, D, (List.range (n - 2)).map fun i : Nat => innB ws ((2 : Int) + (i : Int)), rfl, ?_, _, rfl, ?_, rfl⟩
          · rw [List.map_map]
            exact sql hd8
          · rw [un]
        · rw [decide_eq_false e, Bool.false_and] at un
          refine ite2 (fun z => absurd (of_decide_eq_true z) (by omega)) (fun _ => ⟨by rw [← un], rfl⟩)
      obtain ⟨rfl, rfl⟩ := hv
      have tj : (((allL k (n - 1)).take (j + 1)).map uns01).sum = (((allL k (n - 1)).take j).map uns01).sum + (if unsB ws = true then 1 else 0) := by
        rw [List.take_add_one, hw, Option.toList_some, List.map_append, List.sum_append]
        show _ + ((if unsB ws = true then (1 : Int) else 0) + 0) = _
        rw [Int.add_zero]
      refine .inr ⟨_, rfl, _, _, rfl, rfl, ⟨some (.ref p), some (.ref D), y8, ?_⟩, s7.trans s8⟩
      rw [tj]
      rfl
    · obtain ⟨⟨y6, y7, y8, rfl⟩, s7⟩ := h
      rw [List.length_map, hL.len, List.take_length, count_uns, uns_count n1]
      obtain ⟨c0, c1⟩ := cntF_le (k := k) n1 (hp2 _ (Nat.le_refl _))
      have lg : (cntF (k : Int) n).natAbs.log2 < 1920 := Nat.lt_trans (PySem.Flt.log2_lt_of (k := 12) (by decide) (by omega)) (by decide)
      refine ⟨_, rfl, _, rfl, n, k, rfl, n1, by omega, by omega, by omega, fun H8 s8 => ?_⟩
      refine .inr (.inr ⟨_, rfl, lg, _, rfl, .inr (.inr ⟨_, rfl, lg, rfl, _, rfl, ne_str rfl ?_⟩)⟩)
      have one0 : cntF (k : Int) 1 = 0 := by
        unfold cntF
        rw [lst_one, if_neg (by decide)]
        rfl
      refine ⟨_, rfl, _, rfl, n, k, rfl, n1, by omega, by omega, by omega, fun H9 s9 => ⟨_, rfl, rfl, _, rfl, ne_val rfl ?_⟩⟩
      refine ⟨_, rfl, 1, k, rfl, by decide, by decide, by omega, by omega, fun Ha sa' => ⟨rfl, _, rfl, ne_val (by rw [one0]) ⟨⟨_, _, _, _, _, _, _, rfl⟩, A2.trans (B5.trans (Bdv.of (s6.trans (s7.trans (s8.trans (s9.trans sa'))))) (Int.le_refl _)) (by omega)⟩⟩⟩
  · exact q _

end
end Rn
namespace Rn
open PySem PySem.Spec PyProof.Rows L2
theorem all_mk {l : PySem.W.OpenLaw} {w : World} {K : PySem.W.Frag} {h : Heap} {mg : Str → Option Value} {fa f0 f1 f2 f3 f4 f5 f6 f7 f8 : Addr} (X : K.In h) (G : h.Ns mainGlobals mg) (hfa : mg "law" = some (.ref fa))
    {od0 an0 od1 an1 od2 an2 od3 an3 od4 an4 od5 an5 od6 an6 od7 an7 od8 an8 : Option Addr} {sl0 sl1 sl2 sl3 sl4 sl5 sl6 sl7 sl8 : Array (Option Value)} {oc0 kV0 dc0 pm0 cd0 ct0 oc1 kV1 dc1 pm1 cd1 ct1 oc2 kV2 dc2 pm2 cd2 ct2 oc3 kV3 dc3 pm3 cd3 ct3 oc4 kV4 dc4 pm4 cd4 ct4 oc5 kV5 dc5 pm5 cd5 ct5 oc6 kV6 dc6 pm6 cd6 ct6 oc7 kV7 dc7 pm7 cd7 ct7 oc8 kV8 dc8 pm8 cd8 ct8 : Value}
    (a0 : PySem.W.nsIn K mainGlobals "number_power" = some (some (.ref f0))) (l0 : K.lookup f0 = some ⟨oc0, od0, .func (PySem.W.fnOf "number_power" "number_power" (defArgs s_number_power) (defBody s_number_power) (defScope s_number_power) .none kV0 dc0 pm0 an0 cd0 ct0), sl0⟩) (c0 : PySem.W.codeIn K cd0 "number_power" = true) (k0 : PySem.W.keepIn K (.ref f0) = true)
    (a1 : PySem.W.nsIn K mainGlobals "divisors" = some (some (.ref f1))) (l1 : K.lookup f1 = some ⟨oc1, od1, .func (PySem.W.fnOf "divisors" "divisors" (defArgs s_divisors) (defBody s_divisors) (defScope s_divisors) .none kV1 dc1 pm1 an1 cd1 ct1), sl1⟩) (c1 : PySem.W.codeIn K cd1 "divisors" = true) (k1 : PySem.W.keepIn K (.ref f1) = true)
    (a2 : PySem.W.nsIn K mainGlobals "count_lists" = some (some (.ref f2))) (l2 : K.lookup f2 = some ⟨oc2, od2, .func (PySem.W.fnOf "count_lists" "count_lists" (defArgs s_count_lists) (defBody s_count_lists) (defScope s_count_lists) .none kV2 dc2 pm2 an2 cd2 ct2), sl2⟩) (c2 : PySem.W.codeIn K cd2 "count_lists" = true) (k2 : PySem.W.keepIn K (.ref f2) = true)
    (a3 : PySem.W.nsIn K mainGlobals "count_unsplittable" = some (some (.ref f3))) (l3 : K.lookup f3 = some ⟨oc3, od3, .func (PySem.W.fnOf "count_unsplittable" "count_unsplittable" (defArgs s_count_unsplittable) (defBody s_count_unsplittable) (defScope s_count_unsplittable) .none kV3 dc3 pm3 an3 cd3 ct3), sl3⟩) (c3 : PySem.W.codeIn K cd3 "count_unsplittable" = true) (k3 : PySem.W.keepIn K (.ref f3) = true)
    (a4 : PySem.W.nsIn K mainGlobals "_law_bag" = some (some (.ref f4))) (l4 : K.lookup f4 = some ⟨oc4, od4, .func (PySem.W.fnOf "_law_bag" "_law_bag" (defArgs s_law_bag) (defBody s_law_bag) (defScope s_law_bag) .none kV4 dc4 pm4 an4 cd4 ct4), sl4⟩) (c4 : PySem.W.codeIn K cd4 "_law_bag" = true) (k4 : PySem.W.keepIn K (.ref f4) = true)
    (a5 : PySem.W.nsIn K mainGlobals "_law_draw" = some (some (.ref f5))) (l5 : K.lookup f5 = some ⟨oc5, od5, .func (PySem.W.fnOf "_law_draw" "_law_draw" (defArgs s_law_draw) (defBody s_law_draw) (defScope s_law_draw) .none kV5 dc5 pm5 an5 cd5 ct5), sl5⟩) (c5 : PySem.W.codeIn K cd5 "_law_draw" = true) (k5 : PySem.W.keepIn K (.ref f5) = true)
    (a6 : PySem.W.nsIn K mainGlobals "_law_is_inner" = some (some (.ref f6))) (l6 : K.lookup f6 = some ⟨oc6, od6, .func (PySem.W.fnOf "_law_is_inner" "_law_is_inner" (defArgs s_law_is_inner) (defBody s_law_is_inner) (defScope s_law_is_inner) .none kV6 dc6 pm6 an6 cd6 ct6), sl6⟩) (c6 : PySem.W.codeIn K cd6 "_law_is_inner" = true) (k6 : PySem.W.keepIn K (.ref f6) = true)
    (a7 : PySem.W.nsIn K mainGlobals "_law_all_lists" = some (some (.ref f7))) (l7 : K.lookup f7 = some ⟨oc7, od7, .func (PySem.W.fnOf "_law_all_lists" "_law_all_lists" (defArgs s_law_all_lists) (defBody s_law_all_lists) (defScope s_law_all_lists) .none kV7 dc7 pm7 an7 cd7 ct7), sl7⟩) (c7 : PySem.W.codeIn K cd7 "_law_all_lists" = true) (k7 : PySem.W.keepIn K (.ref f7) = true)
    (a8 : PySem.W.nsIn K mainGlobals "law" = some (some (.ref f8))) (l8 : K.lookup f8 = some ⟨oc8, od8, .func (PySem.W.fnOf "law" "law" (defArgs s_law) (defBody s_law) (defScope s_law) .none kV8 dc8 pm8 an8 cd8 ct8), sl8⟩) (c8 : PySem.W.codeIn K cd8 "law" = true) (k8 : PySem.W.keepIn K (.ref f8) = true)
    (z0 : PySem.W.nsIn K mainGlobals "abs" = some none)
    (z1 : PySem.W.nsIn K mainGlobals "all" = some none)
    (z2 : PySem.W.nsIn K mainGlobals "any" = some none)
    (z3 : PySem.W.nsIn K mainGlobals "int" = some none)
    (z4 : PySem.W.nsIn K mainGlobals "len" = some none)
    (z5 : PySem.W.nsIn K mainGlobals "min" = some none)
    (z6 : PySem.W.nsIn K mainGlobals "range" = some none)
    (z7 : PySem.W.nsIn K mainGlobals "repr" = some none)
    (z8 : PySem.W.nsIn K mainGlobals "sum" = some none)
    : ∃ fd : FuncData, (∀ (s : Shared) (v : Value), BindsTo s fd ⟨[v], []⟩ [("script", v)]) ∧ ∀ base : Heap, K.In base → base.Ns mainGlobals mg → FnG l.prog w K mg base lvl_law fa fd ["script"] (sp_law K) := by
  have e := hfa.symm.trans (PySem.W.mg_of X G a8)
  cases e
  have F0 := fun_mk (st := s_number_power) l0 c0 k0
  have F1 := fun_mk (st := s_divisors) l1 c1 k1
  have F2 := fun_mk (st := s_count_lists) l2 c2 k2
  have F3 := fun_mk (st := s_count_unsplittable) l3 c3 k3
  have F4 := fun_mk (st := s_law_bag) l4 c4 k4
  have F5 := fun_mk (st := s_law_draw) l5 c5 k5
  have F6 := fun_mk (st := s_law_is_inner) l6 c6 k6
  have F7 := fun_mk (st := s_law_all_lists) l7 c7 k7
  have F8 := fun_mk (st := s_law) l8 c8 k8
  have b0 := F0.binds (ps := ["number", "times"]) fun _ _ _ _ _ _ us hl => match us, hl with | [_, _], _ => rfl
  have b1 := F1.binds (ps := ["number"]) fun _ _ _ _ _ _ us hl => match us, hl with | [_], _ => rfl
  have b2 := F2.binds (ps := ["numbers", "kinds"]) fun _ _ _ _ _ _ us hl => match us, hl with | [_, _], _ => rfl
  have b3 := F3.binds (ps := ["attempts", "kinds"]) fun _ _ _ _ _ _ us hl => match us, hl with | [_, _], _ => rfl
  have b4 := F4.binds (ps := ["script"]) fun _ _ _ _ _ _ us hl => match us, hl with | [_], _ => rfl
  have b5 := F5.binds (ps := ["bag", "many"]) fun _ _ _ _ _ _ us hl => match us, hl with | [_, _], _ => rfl
  have b6 := F6.binds (ps := ["waits_now", "number"]) fun _ _ _ _ _ _ us hl => match us, hl with | [_, _], _ => rfl
  have b7 := F7.binds (ps := ["kinds_now", "size"]) fun _ _ _ _ _ _ us hl => match us, hl with | [_, _], _ => rfl
  have b8 := F8.binds (ps := ["script"]) fun _ _ _ _ _ _ us hl => match us, hl with | [_], _ => rfl
  have T : Txt K mg := ⟨f0, _, F0, PySem.W.mg_of X G a0, b0, f1, _, F1, PySem.W.mg_of X G a1, b1, f2, _, F2, PySem.W.mg_of X G a2, b2, f3, _, F3, PySem.W.mg_of X G a3, b3, f4, _, F4, PySem.W.mg_of X G a4, b4, f5, _, F5, PySem.W.mg_of X G a5, b5, f6, _, F6, PySem.W.mg_of X G a6, b6, f7, _, F7, PySem.W.mg_of X G a7, b7, fa, _, F8, PySem.W.mg_of X G a8, b8, kb2r fun s a b => .of_eq rfl, PySem.W.mg_none_of X G z0, PySem.W.mg_none_of X G z1, PySem.W.mg_none_of X G z2, PySem.W.mg_none_of X G z3, PySem.W.mg_none_of X G z4, PySem.W.mg_none_of X G z5, PySem.W.mg_none_of X G z6, PySem.W.mg_none_of X G z7, PySem.W.mg_none_of X G z8⟩
  exact ⟨_, fun s v => .of_eq rfl, fun base _ _ => ok_law ⟨f0, _, F0, PySem.W.mg_of X G a0, b0, f1, _, F1, PySem.W.mg_of X G a1, b1, f2, _, F2, PySem.W.mg_of X G a2, b2, f3, _, F3, PySem.W.mg_of X G a3, b3, f4, _, F4, PySem.W.mg_of X G a4, b4, f5, _, F5, PySem.W.mg_of X G a5, b5, f6, _, F6, PySem.W.mg_of X G a6, b6, f7, _, F7, PySem.W.mg_of X G a7, b7, fa, _, F8, PySem.W.mg_of X G a8, b8, kb2r fun s a b => .of_eq rfl, PySem.W.mg_none_of X G z0, PySem.W.mg_none_of X G z1, PySem.W.mg_none_of X G z2, PySem.W.mg_none_of X G z3, PySem.W.mg_none_of X G z4, PySem.W.mg_none_of X G z5, PySem.W.mg_none_of X G z6, PySem.W.mg_none_of X G z7, PySem.W.mg_none_of X G z8⟩⟩
end Rn
open PySem PySem.W PyProof.Rows
set_option maxRecDepth 100000 in
set_option maxHeartbeats 0 in
theorem PySem.Challenge.cw_retrynest_k33_unsplittable_policies_list_holds : PySem.Challenge.rw_retrynest_k33_unsplittable_policies_list.Holds := by
  w_on; o_law; k_head; (case hw => w_witness2)
  k_fill
  refine Rn.walk_G (l := PySem.Challenge.rw_retrynest_k33_unsplittable_policies_list) (k := Rn.lvl_law) (sp := Rn.sp_law) rfl rfl ⟨rfl, by decide, by decide⟩ (fun w h Y => PySem.W.kIn_of Y) ?F (fun _ _ a ns hl hS => ⟨a, ns, rfl, hS, hl, fun _ => rfl⟩)
  case F =>
    intro w mg fa h KX G hmg
    refine' Rn.all_mk KX G hmg ?a0 ?l0 ?c0 ?k0 ?a1 ?l1 ?c1 ?k1 ?a2 ?l2 ?c2 ?k2 ?a3 ?l3 ?c3 ?k3 ?a4 ?l4 ?c4 ?k4 ?a5 ?l5 ?c5 ?k5 ?a6 ?l6 ?c6 ?k6 ?a7 ?l7 ?c7 ?k7 ?a8 ?l8 ?c8 ?k8 ?z0 ?z1 ?z2 ?z3 ?z4 ?z5 ?z6 ?z7 ?z8
    (case a0 => k_is); (case l0 => k_is); (case c0 => k_is); (case k0 => k_is); (case a1 => k_is); (case l1 => k_is); (case c1 => k_is); (case k1 => k_is); (case a2 => k_is)
    (case l2 => k_is); (case c2 => k_is); (case k2 => k_is); (case a3 => k_is); (case l3 => k_is); (case c3 => k_is); (case k3 => k_is); (case a4 => k_is); (case l4 => k_is)
    (case c4 => k_is); (case k4 => k_is); (case a5 => k_is); (case l5 => k_is); (case c5 => k_is); (case k5 => k_is); (case a6 => k_is); (case l6 => k_is); (case c6 => k_is)
    (case k6 => k_is); (case a7 => k_is); (case l7 => k_is); (case c7 => k_is); (case k7 => k_is); (case a8 => k_is); (case l8 => k_is); (case c8 => k_is); (case k8 => k_is)
    (case z0 => k_is); (case z1 => k_is); (case z2 => k_is); (case z3 => k_is); (case z4 => k_is); (case z5 => k_is); (case z6 => k_is); (case z7 => k_is); (case z8 => k_is)
