import PyProof.Rows.All
import Wide.All
import OpenK.AllK
import Wide.FinOn
import HandS.ForMost
import HandS.Wide
import HandS.IsInst
import HandS.NoneIn
import HandS.Evl
import HandS.Zip
import HandS.Walk
import HandS.Small
import HandS.SetFor
import HandS.Style
import HandS.DictComp
import HandS.Gcd
import HandS.WideBits
import HandS.TupLe
import HandS.ForExc
import HandS.ExcSuper
import HandS.Conv
import KE.KExcSuper
import KE.KSuper
import HandS.ExcIs
import HandS.List
import HandS.CallSlots
import HandS.Defaults
import PySem.Challenge.RW_retrynest_k16_whole_large_layers
set_option Elab.async false
set_option linter.all false
set_option maxRecDepth 100000
set_option maxHeartbeats 4000000
namespace Rn
open PySem PySem.Spec PyProof.Rows L2

/-! ## heaps -/
theorem same_new {H : Hp} {p : Addr} {o : HO} (h : H p = none) : Same H (upd H p o) := fun b x e => by
  rw [upd_ne (ne_of_none e h)]
  exact e
theorem same_keep {H H' : Hp} {p : Addr} {o : HO} (e : Same H H') (h : H p = none) : Same H (upd H' p o) := fun b x q => by
  rw [upd_ne (ne_of_none q h)]
  exact e b x q
theorem sql {K : PySem.W.Frag} {H : Hp} {p : Addr} {xs : List V} (h : H p = some (.lst xs)) : SqL K H p xs := .inl (.inl h)
theorem sqt {K : PySem.W.Frag} {H : Hp} {p : Addr} {xs : List V} (h : H p = some (.tup xs)) : SqT K H p xs := .inl (.inl h)
/-- the source's two objects hidden -/
def hid (a d : Addr) (H : Hp) : Hp := fun b => if b = a ∨ b = d then none else H b
theorem hid_get {a d : Addr} {H : Hp} {b : Addr} {o : HO} (h : hid a d H b = some o) : H b = some o ∧ b ≠ a ∧ b ≠ d := by
  unfold hid at h
  by_cases e : b = a ∨ b = d
  · rw [if_pos e] at h
    cases h
  · rw [if_neg e] at h
    exact ⟨h, fun z => e (.inl z), fun z => e (.inr z)⟩
theorem hid_at {a d : Addr} {H : Hp} {b : Addr} {o : HO} (h : H b = some o) (ha : b ≠ a) (hd : b ≠ d) : hid a d H b = some o := by
  unfold hid
  rw [if_neg (fun z => z.elim ha hd)]
  exact h
theorem hid_none {a d : Addr} {H : Hp} {b : Addr} (h : H b = none) : hid a d H b = none := by
  unfold hid
  split
  · rfl
  · exact h
theorem hid_same {a d : Addr} {H H' : Hp} (e : Same H H') : Same (hid a d H) (hid a d H') := fun b o h => by
  obtain ⟨h1, h2, h3⟩ := hid_get h
  exact hid_at (e _ _ h1) h2 h3
theorem hid_src1 {a d : Addr} {H : Hp} {o : HO} : hid a d (upd H a o) = hid a d H := by
  funext b
  unfold hid
  by_cases e : b = a ∨ b = d
  · rw [if_pos e, if_pos e]
  · rw [if_neg e, if_neg e, upd_ne fun z => e (.inl z)]
theorem hid_src2 {a d : Addr} {H : Hp} {o : HO} : hid a d (upd H d o) = hid a d H := by
  funext b
  unfold hid
  by_cases e : b = a ∨ b = d
  · rw [if_pos e, if_pos e]
  · rw [if_neg e, if_neg e, upd_ne fun z => e (.inr z)]
theorem hid_oth {a d : Addr} {H : Hp} {p : Addr} {o : HO} (ha : p ≠ a) (hd : p ≠ d) : hid a d (upd H p o) = upd (hid a d H) p o := by
  funext b
  by_cases e : b = p
  · rw [e, upd_same]
    exact hid_at upd_same ha hd
  · rw [upd_ne e]
    unfold hid
    rw [upd_ne e]

/-! ## the source of draws: a list at a, its digits at d; at most n draws were mixed -/
def Src (H : Hp) (a d : Addr) (n : Int) : Prop := ∃ (cur mix cnt : Int) (ds : List Int), H a = some (.lst [.ref d, .int cur, .int mix, .int cnt]) ∧ H d = some (.lst (ds.map V.int)) ∧
  0 ≤ mix ∧ mix < 2305843009213693951 ∧ 0 ≤ cnt ∧ cnt ≤ n
theorem Src.ne {H : Hp} {a d : Addr} {n : Int} (s : Src H a d n) : a ≠ d := by
  obtain ⟨cur, mix, cnt, ds, h1, h2, _⟩ := s
  intro e
  rw [e] at h1
  rw [h1] at h2
  cases ds with
  | nil => cases h2
  | cons x r =>
    have z := Option.some.inj h2
    injection z with z
    rw [List.map_cons] at z
    injection z with z1 z2
    cases z1
theorem Src.lst1 {H : Hp} {a d : Addr} {n : Int} (s : Src H a d n) : ∃ o, H a = some o := let ⟨_, _, _, _, h, _⟩ := s; ⟨_, h⟩
theorem Src.lst2 {H : Hp} {a d : Addr} {n : Int} (s : Src H a d n) : ∃ o, H d = some o := let ⟨_, _, _, _, _, h, _⟩ := s; ⟨_, h⟩
theorem Src.same {H H' : Hp} {a d : Addr} {n : Int} (s : Src H a d n) (e : Same H H') : Src H' a d n := by
  obtain ⟨cur, mix, cnt, ds, h1, h2, h3⟩ := s
  exact ⟨cur, mix, cnt, ds, e _ _ h1, e _ _ h2, h3⟩
theorem Src.keep {H : Hp} {a d p : Addr} {o : HO} {n : Int} (s : Src H a d n) (ha : p ≠ a) (hd : p ≠ d) : Src (upd H p o) a d n := by
  obtain ⟨cur, mix, cnt, ds, h1, h2, h3⟩ := s
  exact ⟨cur, mix, cnt, ds, by rw [upd_ne ha.symm]; exact h1, by rw [upd_ne hd.symm]; exact h2, h3⟩
theorem Src.mono {H : Hp} {a d : Addr} {n m : Int} (s : Src H a d n) (h : n ≤ m) : Src H a d m := by
  obtain ⟨cur, mix, cnt, ds, h1, h2, h3, h4, h5, h6⟩ := s
  exact ⟨cur, mix, cnt, ds, h1, h2, h3, h4, h5, Int.le_trans h6 h⟩
theorem Src.new1 {H : Hp} {a d p : Addr} {n : Int} (s : Src H a d n) (h : H p = none) : p ≠ a ∧ p ≠ d := by
  obtain ⟨o, h1⟩ := s.lst1
  obtain ⟨u, h2⟩ := s.lst2
  exact ⟨(ne_of_none h1 h).symm, (ne_of_none h2 h).symm⟩

/-- what a call that draws at most c times does to the heap: all but the source stays, the source is a source -/
structure Adv (a d : Addr) (c : Int) (H H' : Hp) : Prop where
  same : Same (hid a d H) (hid a d H')
  src : ∀ n, Src H a d n → Src H' a d (n + c)
theorem Adv.refl {a d : Addr} {H : Hp} : Adv a d 0 H H := ⟨Same.refl _, fun n s => s.mono (by omega)⟩
theorem Adv.trans {a d : Addr} {c c' e : Int} {H H1 H2 : Hp} (x : Adv a d c H H1) (y : Adv a d c' H1 H2) (h : c + c' ≤ e) : Adv a d e H H2 :=
  ⟨x.same.trans y.same, fun n s => (y.src _ (x.src _ s)).mono (by omega)⟩
theorem Adv.mono {a d : Addr} {c e : Int} {H H1 : Hp} (x : Adv a d c H H1) (h : c ≤ e) : Adv a d e H H1 := ⟨x.same, fun n s => (x.src _ s).mono (by omega)⟩
theorem Adv.of {a d : Addr} {H H' : Hp} (e : Same H H') : Adv a d 0 H H' := ⟨hid_same e, fun n s => (s.same e).mono (by omega)⟩
/-- .. where a new object of the way has changed -/
theorem Adv.mut {a d : Addr} {c : Int} {H H' : Hp} {p : Addr} {o : HO} {n : Int} (x : Adv a d c H H') (s : Src H a d n) (h : H p = none) : Adv a d c H (upd H' p o) := by
  obtain ⟨h1, h2⟩ := s.new1 h
  refine ⟨?_, fun m t => (x.src m t).keep h1 h2⟩
  rw [hid_oth h1 h2]
  exact same_keep x.same (hid_none h)
/-- free behind is free ahead -/
theorem Adv.free {a d p : Addr} {c n : Int} {H H' : Hp} (x : Adv a d c H H') (s : Src H a d n) (h : H' p = none) : H p = none := by
  have s' := x.src n s
  obtain ⟨h1, h2⟩ := s'.new1 h
  cases q : H p with
  | none => rfl
  | some o =>
    have e := (hid_get (x.same p o (hid_at q h1 h2))).1
    rw [h] at e
    cases e
theorem Adv.made {a d : Addr} {c cur mix cnt cur' cnt' : Int} {H H' : Hp} {ds' : List Int} (e : Same (hid a d H) (hid a d H')) (h : H a = some (.lst [.ref d, .int cur, .int mix, .int cnt]))
    (h' : H' a = some (.lst [.ref d, .int cur', .int mix, .int cnt'])) (hd' : H' d = some (.lst (ds'.map V.int))) (h0 : cnt ≤ cnt') (h1 : cnt' ≤ cnt + c) : Adv a d c H H' := by
  refine ⟨e, fun n s => ?_⟩
  obtain ⟨cu, mi, cn, ds, a1, a2, a3, a4, a5, a6⟩ := s
  rw [h] at a1
  cases a1
  exact ⟨cur', mix, cnt', ds', h', hd', a3, a4, by omega, by omega⟩
theorem small64 {x b : Int} (h0 : 0 ≤ x) (h1 : x < b) (hb : b ≤ 18446744073709551616) : x.natAbs < 2 ^ 64 := by omega

/-! ## ints in lists -/
theorem map_get {ns : List Int} {i : Nat} {x : Int} (h : ns[i]? = some x) : (ns.map V.int)[i]? = some (.int x) := by
  rw [List.getElem?_map, h]
  rfl
theorem at_int {ns : List Int} {i : Int} (h0 : 0 ≤ i) (h : i < ns.length) : ∃ x, x ∈ ns ∧ ns[i.toNat]? = some x ∧ atI (ns.map V.int) i = some (.int x) := by
  obtain ⟨j, rfl⟩ : ∃ j : Nat, i = (j : Int) := ⟨i.toNat, by omega⟩
  have hi : j < ns.length := by omega
  exact ⟨ns[j], List.getElem_mem hi, List.getElem?_eq_getElem hi, atI_nat (map_get (List.getElem?_eq_getElem hi))⟩
theorem at_val {xs : List V} {i : Int} (h0 : 0 ≤ i) (h : i < xs.length) : ∃ x, x ∈ xs ∧ xs[i.toNat]? = some x ∧ atI xs i = some x := by
  obtain ⟨j, rfl⟩ : ∃ j : Nat, i = (j : Int) := ⟨i.toNat, by omega⟩
  have hi : j < xs.length := by omega
  exact ⟨xs[j], List.getElem_mem hi, List.getElem?_eq_getElem hi, atI_nat (List.getElem?_eq_getElem hi)⟩
theorem size_le {n : Nat} (h : n ≤ 100000) : n ≤ sizeLine := Nat.le_trans h (by decide)
theorem size_lt {n : Nat} (h : n < 100000) : n < sizeLine := Nat.lt_of_lt_of_le h (by decide)
mutual
theorem eqv_refl' : ∀ d : PyData, d.canLay0 = true → PyData.eqv d d = true
  | .none, _ => rfl
  | .bool b, _ => by simp [PyData.eqv]
  | .int i, _ => by simp [PyData.eqv]
  | .str x, _ => by simp [PyData.eqv]
  | .list xs, h => by
    simp only [PyData.eqv]
    exact eqvAll_refl' xs (by simpa [PyData.canLay0] using h)
  | .tuple xs, h => by
    simp only [PyData.eqv]
    exact eqvAll_refl' xs (by simpa [PyData.canLay0] using h)
  | .dict _, h => by simp [PyData.canLay0] at h
theorem eqvAll_refl' : ∀ ds : List PyData, PyData.canLayAll0 ds = true → PyData.eqvAll ds ds = true
  | [], _ => by simp [PyData.eqvAll]
  | d :: ds, h => by
    have h' : d.canLay0 = true ∧ PyData.canLayAll0 ds = true := by simpa [PyData.canLayAll0] using h
    simp only [PyData.eqvAll, Bool.and_eq_true]
    exact ⟨eqv_refl' d h'.1, eqvAll_refl' ds h'.2⟩
end
/-- a list of ints as data -/
def dInts (ns : List Int) : PyData := .list (ns.map .int)
theorem eqvAll_ints : ∀ ns ms : List Int, PyData.eqvAll (ns.map .int) (ms.map .int) = decide (ns = ms)
  | [], [] => by simp [PyData.eqvAll]
  | [], _ :: _ => by simp [PyData.eqvAll]
  | _ :: _, [] => by simp [PyData.eqvAll]
  | n :: ns, m :: ms => by
    have ih := eqvAll_ints ns ms
    simp only [List.map_cons, PyData.eqvAll, PyData.eqv, ih]
    by_cases h1 : n = m <;> by_cases h2 : ns = ms <;> simp [h1, h2]
theorem eqv_ints (ns ms : List Int) : PyData.eqv (dInts ns) (dInts ms) = decide (ns = ms) := by
  unfold dInts
  simp only [PyData.eqv]
  exact eqvAll_ints ns ms
theorem canLay_ints : ∀ ns : List Int, PyData.canLayAll0 (ns.map .int) = true
  | [] => by simp [PyData.canLayAll0]
  | n :: ns => by simp [PyData.canLayAll0, PyData.canLay0, canLay_ints ns]
theorem depth_ints : ∀ ns : List Int, PyData.depthAll (ns.map .int) ≤ 1
  | [] => by simp [PyData.depthAll]
  | n :: ns => by
    have := depth_ints ns
    simp only [List.map_cons, PyData.depthAll, PyData.depth]
    omega
theorem shaped_ints (ns : List Int) : SeqAt.shaped (dInts ns) = true := by
  have h := depth_ints ns
  unfold SeqAt.shaped
  rw [Bool.and_eq_true]
  refine ⟨?_, decide_eq_true ?_⟩
  · unfold dInts
    simp only [PyData.canLay0, canLay_ints]
  · unfold dInts
    simp only [PyData.depth]
    omega
theorem dp_all {K : PySem.W.Frag} {H : Hp} : ∀ ns : List Int, DpAll K H (ns.map V.int) (ns.map .int)
  | [] => .nil
  | n :: ns => .cons (.int n) (dp_all ns)
theorem dp_ints {K : PySem.W.Frag} {H : Hp} {p : Addr} {ns : List Int} (h : SqL K H p (ns.map V.int)) : Dp K H (.ref p) (dInts ns) := .lst h (dp_all ns)
theorem dp_nil {K : PySem.W.Frag} {H : Hp} {p : Addr} (h : SqL K H p []) : Dp K H (.ref p) (dInts []) := .lst h .nil

/-! ## loops -/
/-- for i, x in enumerate(xs), xs left as it is -/
theorem for_enum {K : PySem.W.Frag} {a : Addr} {xs : List V} {g : TG} {tb : TS} {D : Ends} {σ : L2.St} {H : Hp} (Pv : Nat → L2.St → Hp → Prop) (h0 : Pv 0 σ H)
    (hl : ∀ i σ H, i ≤ xs.length → Pv i σ H → SqL K H a xs)
    (hs : ∀ i x σ H T, xs[i]? = some x → Pv i σ H → H T = none → g (.ref T) σ (upd H T (.tup [.int (i : Nat), x])) fun σ2 H2 => tb { D with nx := Pv (i + 1), ct := Pv (i + 1), bk := D.nx } σ2 H2)
    (hd : ∀ σ H, Pv xs.length σ H → D.nx σ H) :
    ∃ W : Nat → Nat → L2.St → Hp → Prop, (∃ m, W 0 m σ H) ∧ ∀ i m σ H, W i m σ H →
      ((Ite K a).stop i H ∧ D.nx σ H) ∨ ((Ite K a).go i H ∧ ∃ N : L2.St → Hp → Prop, (∀ σ' H', N σ' H' → ∃ m', m' < m ∧ W (i + 1) m' σ' H') ∧
        ∀ x H', (Ite K a).yld i H x H' → g x σ H' fun σ2 H2 => tb { D with nx := N, ct := N, bk := D.nx } σ2 H2) := by
  refine ⟨fun i m σ' H' => m + i = xs.length ∧ Pv i σ' H', ⟨xs.length, rfl, h0⟩, fun i m σ' H' hW => ?_⟩
  obtain ⟨em, hp⟩ := hW
  have hq := hl i σ' H' (by omega) hp
  by_cases hi : i < xs.length
  · refine .inr ⟨⟨xs, xs[i], hq, List.getElem?_eq_getElem hi⟩, Pv (i + 1), fun σ2 H2 h2 => ⟨m - 1, by omega, by omega, h2⟩, fun x H2 hy => ?_⟩
    obtain ⟨T, y, rfl, nT, rfl, hx⟩ := hy
    exact hs i y σ' H' T (hx xs hq) hp nT
  · have e : i = xs.length := by omega
    subst e
    exact .inl ⟨⟨xs, hq, Nat.le_refl _⟩, hd σ' H' hp⟩

/-! ## kinds -/
section
variable {K : PySem.W.Frag} {H : Hp} {p : Addr} {xs : List V} {Q : VK}
theorem isi_tt (h : H p = some (.tup xs)) (q : Q (.bl true) H) : rIsi K [.ref p, .ty "tuple"] H Q := ⟨_, _, _, _, _, rfl, .ty "tuple", .base (.tup h), kit_ty (by decide +kernel), q⟩
theorem isi_lt (h : H p = some (.lst xs)) (q : Q (.bl false) H) : rIsi K [.ref p, .ty "tuple"] H Q := ⟨_, _, _, _, _, rfl, .ty "tuple", .base (.lst h), kit_ty (by decide +kernel), q⟩
theorem isi_ll (h : H p = some (.lst xs)) (q : Q (.bl true) H) : rIsi K [.ref p, .ty "list"] H Q := ⟨_, _, _, _, _, rfl, .ty "list", .base (.lst h), kit_ty (by decide +kernel), q⟩
theorem isi_tl (h : H p = some (.tup xs)) (q : Q (.bl false) H) : rIsi K [.ref p, .ty "list"] H Q := ⟨_, _, _, _, _, rfl, .ty "list", .base (.tup h), kit_ty (by decide +kernel), q⟩
end

theorem units1 {n c : Nat} (h : n + 64 < c) : n + 1 < c := by omega
theorem yes_thn {σ : L2.St} {H : Hp} {A B : Hp → Prop} (h : A H) : tYes σ H (fun b H3 => if b = true then A H3 else B H3) := by
  change (if true = true then A H else B H)
  exact (if_pos rfl).mpr h
/-! ## policies and layers -/
/-- the inner one, then each wait of the outer one and the inner one again -/
def nestL {α : Type} (xs ys : List α) : List α := xs ++ ys.flatMap fun y => y :: xs
theorem nestL_map {α β : Type} (f : α → β) (xs ys : List α) : (nestL xs ys).map f = nestL (xs.map f) (ys.map f) := by
  unfold nestL
  rw [List.map_append, List.map_flatMap, List.flatMap_map]
  congr 1
theorem flatMap_len {α β : Type} (f : α → List β) (n : Nat) (h : ∀ x, (f x).length = n) : ∀ l : List α, (l.flatMap f).length = l.length * n
  | [] => by simp
  | x :: l => by
    rw [List.flatMap_cons, List.length_append, h x, flatMap_len f n h l, List.length_cons, Nat.succ_mul, Nat.add_comm]
theorem nestL_len {α : Type} (xs ys : List α) : (nestL xs ys).length + 1 = (xs.length + 1) * (ys.length + 1) := by
  unfold nestL
  rw [List.length_append, flatMap_len _ (xs.length + 1) (fun _ => rfl)]
  generalize xs.length = a
  generalize ys.length = b
  have e1 : (a + 1) * (b + 1) = a * b + a + (b + 1) := by rw [Nat.add_mul, Nat.mul_add, Nat.mul_one, Nat.one_mul]
  have e2 : b * (a + 1) = a * b + b := by rw [Nat.mul_add, Nat.mul_one, Nat.mul_comm]
  omega
theorem nestL_nil {α : Type} (xs : List α) : nestL xs [] = xs := by
  unfold nestL
  simp
theorem nil_nestL {α : Type} (ys : List α) : nestL [] ys = ys := by
  unfold nestL
  simp
theorem nestL_mem {α : Type} {xs ys : List α} {z : α} (h : z ∈ nestL xs ys) : z ∈ xs ∨ z ∈ ys := by
  unfold nestL at h
  rw [List.mem_append, List.mem_flatMap] at h
  rcases h with h | ⟨y, hy, h⟩
  · exact .inl h
  · rcases List.mem_cons.mp h with e | h
    · exact .inr (e ▸ hy)
    · exact .inl h
inductive Lay where
  | pol (ns : List Int)
  | con (w n : Int)
def Lay.cnt : Lay → Int
  | .pol ns => (ns.length : Int) + 1
  | .con _ n => n
def Lay.waits : Lay → List Int
  | .pol ns => ns
  | .con w n => List.replicate (n - 1).toNat w
def Lay.ok : Lay → Bool
  | .pol ns => ns.all fun x => decide (0 ≤ x)
  | .con w n => decide (0 ≤ w) && decide (1 ≤ n)
theorem Lay.ok_con (w n : Int) : (Lay.con w n).ok = (decide (0 ≤ w) && decide (1 ≤ n)) := rfl
theorem Lay.ok_pol (ns : List Int) : (Lay.pol ns).ok = ns.all fun x => decide (0 ≤ x) := rfl
def LayAt (H : Hp) (v : V) : Lay → Prop
  | .pol ns => ∃ p, v = .ref p ∧ H p = some (.lst (ns.map V.int))
  | .con w n => ∃ p, v = .ref p ∧ H p = some (.tup [.int w, .int n])
theorem LayAt.same {H H' : Hp} {v : V} {L : Lay} (h : LayAt H v L) (e : Same H H') : LayAt H' v L := by
  cases L with
  | pol ns => obtain ⟨p, h1, h2⟩ := h; exact ⟨p, h1, e _ _ h2⟩
  | con w n => obtain ⟨p, h1, h2⟩ := h; exact ⟨p, h1, e _ _ h2⟩
theorem LayAt.ref {H : Hp} {v : V} {L : Lay} (h : LayAt H v L) : ∃ p, v = .ref p := by
  cases L with
  | pol ns => obtain ⟨p, h1, _⟩ := h; exact ⟨p, h1⟩
  | con w n => obtain ⟨p, h1, _⟩ := h; exact ⟨p, h1⟩
def NestAt (H : Hp) (q : Addr) (Ls : List Lay) : Prop := ∃ vs, H q = some (.lst vs) ∧ vs.length = Ls.length ∧ ∀ (i : Nat) v L, vs[i]? = some v → Ls[i]? = some L → LayAt H v L
theorem NestAt.same {H H' : Hp} {q : Addr} {Ls : List Lay} (h : NestAt H q Ls) (e : Same H H') : NestAt H' q Ls := by
  obtain ⟨vs, h1, h2, h3⟩ := h
  exact ⟨vs, e _ _ h1, h2, fun i v L a b => (h3 i v L a b).same e⟩
theorem LayAt.con_pos {L : Lay} (h : L.ok = true) : 1 ≤ L.cnt := by
  cases L with
  | pol ns => show (1 : Int) ≤ (ns.length : Int) + 1; omega
  | con w n =>
    unfold Lay.ok at h
    rw [Bool.and_eq_true] at h
    exact of_decide_eq_true h.2
def attOf (Ls : List Lay) : Int := Ls.foldl (fun t L => t * L.cnt) 1
def flatL (Ls : List Lay) : List Int := Ls.foldl (fun acc L => if L.cnt > 1 then nestL acc L.waits else acc) []
theorem nest_of {H : Hp} {q : Addr} {vs : List V} {Ls : List Lay} (h : H q = some (.lst vs)) (p : Paired (LayAt H) vs Ls) : NestAt H q Ls := by
  refine ⟨vs, h, Paired.length p, ?_⟩
  clear h
  induction p with
  | nil =>
    intro i v L h
    cases h
  | cons r t ih =>
    intro i v L h1 h2
    cases i with
    | zero =>
      cases h1
      cases h2
      exact r
    | succ i => exact ih i v L h1 h2
theorem flatL_eq : ∀ (Ls : List Lay) (acc : List Int), (∀ L ∈ Ls, L.ok = true) → Ls.foldl (fun acc L => if L.cnt > 1 then nestL acc L.waits else acc) acc = Ls.foldl (fun acc L => nestL acc L.waits) acc
  | [], _, _ => rfl
  | L :: Ls, acc, h => by
    have h1 := LayAt.con_pos (h L List.mem_cons_self)
    have e : (if L.cnt > 1 then nestL acc L.waits else acc) = nestL acc L.waits := by
      split
      · rfl
      · have hw : L.waits = [] := by
          cases L with
          | pol ns =>
            have : (ns.length : Int) + 1 = (Lay.pol ns).cnt := rfl
            exact List.length_eq_zero_iff.mp (by show ns.length = 0; omega)
          | con w n =>
            have : n = (Lay.con w n).cnt := rfl
            show List.replicate (n - 1).toNat w = []
            rw [show (n - 1).toNat = 0 by omega]
            rfl
        rw [hw, nestL_nil]
    rw [List.foldl_cons, List.foldl_cons, e]
    exact flatL_eq Ls _ fun M hM => h M (List.mem_cons_of_mem _ hM)
theorem flatL_fold {Ls : List Lay} (h : ∀ L ∈ Ls, L.ok = true) : flatL Ls = Ls.foldl (fun acc L => nestL acc L.waits) [] := flatL_eq Ls [] h
theorem nestL_assoc {α : Type} (xs ys zs : List α) : nestL (nestL xs ys) zs = nestL xs (nestL ys zs) := by
  unfold nestL
  rw [List.flatMap_append, List.append_assoc]
  congr 1
  congr 1
  induction zs with
  | nil => rfl
  | cons z zs ih =>
    simp only [List.flatMap_cons, List.flatMap_append, List.cons_append, List.append_assoc] at ih ⊢
    rw [ih]
theorem pol_ok {ns : List Int} (h : ∀ x ∈ ns, 0 ≤ x ∧ x < 1000000000000) : (Lay.pol ns).ok = true := by
  rw [Lay.ok_pol, List.all_eq_true]
  exact fun x hx => decide_eq_true (h x hx).1
theorem ne_no {ns ms : List Int} {A B : Prop} (h : ns = ms) (b : B) : if (!PyData.eqv (dInts ns) (dInts ms)) = true then A else B := by
  rw [eqv_ints, decide_eq_true h]
  exact iteF b

/-! ## rules of the written part in a comprehension's block -/
section
variable {X : Cx} {K : PySem.W.Frag}
theorem ix_listK (h : X.K = K) : IxR X (rIxL K) := by subst h; exact ix_list
theorem ix_tupK (h : X.K = K) : IxR X (rIxT K) := by subst h; exact ix_tup
theorem sl_listK (h : X.K = K) : SlR X (rSlL K) := by subst h; exact sl_list
theorem op_eqDK (h : X.K = K) (hu : X.A.units + 64 < cLine) : OpR X (compareOp .Eq) (rEqD K) := by subst h; exact op_eqD hu
theorem op_neDK (h : X.K = K) (hu : X.A.units + 64 < cLine) : OpR X (compareOp .NotEq) (rNeD K) := by subst h; exact op_neD hu
theorem op_in_seqK (h : X.K = K) : OpR X (compareOp .In) (rIn K false) := by subst h; exact op_in_seq
theorem op_notIn_seqK (h : X.K = K) : OpR X (compareOp .NotIn) (rIn K true) := by subst h; exact op_notIn_seq
theorem call_isiK1 (h : X.K = K) : CallR X (.builtin "isinstance") (rIsi K) := by subst h; exact call_isi
def rLenK (K : PySem.W.Frag) : List V → Hp → VK → Prop := fun xs H Q => ∃ p ys, xs = [.ref p] ∧ (SqL K H p ys ∨ SqT K H p ys) ∧ Q (.int (ys.length : Int)) H
theorem call_len_seqK (h : X.K = K) : CallR X (.builtin "len") (rLenK K) := by subst h; exact call_len_seq
def rListK (K : PySem.W.Frag) : List V → Hp → VK → Prop := fun xs H Q => ∃ p ys, xs = [.ref p] ∧ (SqL K H p ys ∨ SqT K H p ys) ∧ ∀ l, H l = none → Q (.ref l) (upd H l (.lst ys))
theorem call_list_ofK (h : X.K = K) : CallR X (.type "list") (rListK K) := by subst h; exact call_list_of
end
theorem refs_ints {ps : List Addr} {ws : List Int} (h : ps.map V.ref = ws.map V.int) : ps = [] := by
  cases ps with
  | nil => rfl
  | cons p ps =>
    cases ws with
    | nil => cases h
    | cons w ws =>
      injection h with h1 h2
      cases h1
theorem three {α : Type} {l : List α} (h : l.length = 3) : ∃ x y z, l = [x, y, z] := by
  match l, h with
  | [x, y, z], _ => exact ⟨x, y, z, rfl⟩
theorem ixN_at {n : Nat} {i : Int} (h0 : 0 ≤ i) (h1 : i < n) : ixN n i = some i.toNat := by
  unfold ixN
  rw [if_pos h0, if_pos h1]
theorem eq_yes {ns ms : List Int} (h : ns = ms) : PyData.eqv (dInts ns) (dInts ms) = true := by rw [eqv_ints, decide_eq_true h]
theorem nestL_cons {α : Type} (ns : List α) (m : α) (ms : List α) : nestL ns (m :: ms) = ns ++ m :: nestL ns ms := by
  unfold nestL
  rw [List.flatMap_cons, List.cons_append]
theorem nestL_get {α : Type} (ns : List α) : ∀ (ms : List α) (j : Nat), j < (nestL ns ms).length → (nestL ns ms)[j]? = if (j + 1) % (ns.length + 1) = 0 then ms[(j + 1) / (ns.length + 1) - 1]? else ns[(j + 1) % (ns.length + 1) - 1]?
  | [], j, h => by
    rw [nestL_nil] at h ⊢
    rw [Nat.mod_eq_of_lt (by omega), if_neg (by omega)]
    rfl
  | m :: ms, j, h => by
    rw [nestL_cons] at h ⊢
    by_cases h1 : j < ns.length
    · rw [List.getElem?_append_left h1, Nat.mod_eq_of_lt (by omega), if_neg (by omega)]
      rfl
    · by_cases h2 : j = ns.length
      · subst h2
        rw [List.getElem?_append_right (Nat.le_refl _), Nat.sub_self, Nat.mod_self, if_pos rfl, Nat.div_self (by omega)]
        rfl
      · obtain ⟨t, rfl⟩ : ∃ t, j = ns.length + 1 + t := ⟨j - (ns.length + 1), by omega⟩
        rw [List.getElem?_append_right (by omega), show ns.length + 1 + t - ns.length = t + 1 by omega, List.getElem?_cons_succ]
        rw [List.length_append, List.length_cons] at h
        rw [nestL_get ns ms t (by omega), show ns.length + 1 + t + 1 = (t + 1) + (ns.length + 1) by omega, Nat.add_mod_right, Nat.add_div_right _ (by omega)]
        by_cases h3 : (t + 1) % (ns.length + 1) = 0
        · rw [if_pos h3, if_pos h3, Nat.succ_sub_one]
          have : 1 ≤ (t + 1) / (ns.length + 1) := by
            have := Nat.div_add_mod (t + 1) (ns.length + 1)
            rw [h3] at this
            rcases Nat.eq_zero_or_pos ((t + 1) / (ns.length + 1)) with z | z
            · rw [z] at this
              omega
            · exact z
          obtain ⟨u, hu⟩ : ∃ u, (t + 1) / (ns.length + 1) = u + 1 := ⟨(t + 1) / (ns.length + 1) - 1, by omega⟩
          rw [hu]
          rfl
        · rw [if_neg h3, if_neg h3]
theorem foldl_nestL : ∀ (Ls : List Lay) (xs acc : List Int), Ls.foldl (fun acc L => nestL acc L.waits) (nestL xs acc) = nestL xs (Ls.foldl (fun acc L => nestL acc L.waits) acc)
  | [], _, _ => rfl
  | L :: Ls, xs, acc => by
    rw [List.foldl_cons, List.foldl_cons, nestL_assoc]
    exact foldl_nestL Ls xs (nestL acc L.waits)
theorem flatL_cons {L : Lay} {Ls : List Lay} (h : ∀ M ∈ L :: Ls, M.ok = true) : flatL (L :: Ls) = nestL L.waits (flatL Ls) := by
  rw [flatL_fold h, flatL_fold fun M hM => h M (List.mem_cons_of_mem _ hM), List.foldl_cons, nil_nestL]
  have := foldl_nestL Ls L.waits []
  rw [nestL_nil] at this
  exact this
/-- a nesting whose layers' objects are newer than H0 and none of them is the nesting's own list -/
def NestV (H0 G : Hp) (p : Addr) (vs : List V) (Ls : List Lay) : Prop := G p = some (.lst vs) ∧ vs.length = Ls.length ∧ (∀ (i : Nat) v L, vs[i]? = some v → Ls[i]? = some L → LayAt G v L) ∧ ∀ x, V.ref x ∈ vs → x ≠ p ∧ H0 x = none
theorem NestV.nest {H0 G : Hp} {p : Addr} {vs : List V} {Ls : List Lay} (h : NestV H0 G p vs Ls) : NestAt G p Ls := ⟨vs, h.1, h.2.1, h.2.2.1⟩
theorem NestV.same {H0 G G' : Hp} {p : Addr} {vs : List V} {Ls : List Lay} (h : NestV H0 G p vs Ls) (e : Same G G') : NestV H0 G' p vs Ls :=
  ⟨e _ _ h.1, h.2.1, fun i v L a b => (h.2.2.1 i v L a b).same e, h.2.2.2⟩
theorem NestV.nil {H0 G : Hp} {p : Addr} (h : G p = some (.lst [])) : NestV H0 G p [] [] := ⟨h, rfl, (fun _ _ _ z => nomatch z), (fun _ z => nomatch z)⟩
theorem LayAt.keep {G : Hp} {p : Addr} {o : HO} {v : V} {L : Lay} (h : LayAt G v L) (ne : ∀ x, v = V.ref x → x ≠ p) : LayAt (upd G p o) v L := by
  cases L with
  | pol ns => obtain ⟨x, e, z⟩ := h; exact ⟨x, e, by rw [upd_ne (ne x e)]; exact z⟩
  | con w n => obtain ⟨x, e, z⟩ := h; exact ⟨x, e, by rw [upd_ne (ne x e)]; exact z⟩
theorem NestV.push {H0 G : Hp} {p x : Addr} {vs : List V} {Ls : List Lay} {L : Lay} (h : NestV H0 G p vs Ls) (hx : LayAt G (.ref x) L) (ne : x ≠ p) (fr : H0 x = none) :
    NestV H0 (upd G p (.lst (vs ++ [.ref x]))) p (vs ++ [.ref x]) (Ls ++ [L]) := by
  obtain ⟨h1, h2, h3, h4⟩ := h
  refine ⟨upd_same, by rw [List.length_append, List.length_append, h2]; rfl, fun i v M a b => ?_, fun y hy => ?_⟩
  · by_cases hi : i < vs.length
    · rw [List.getElem?_append_left hi] at a
      rw [List.getElem?_append_left (by omega)] at b
      exact (h3 i v M a b).keep fun y e => (h4 y (e ▸ List.mem_of_getElem? a)).1
    · rw [List.getElem?_append_right (by omega)] at a
      rw [List.getElem?_append_right (by omega), ← h2] at b
      generalize i - vs.length = k at *
      cases k with
      | zero =>
        cases a
        cases b
        exact hx.keep fun y e => by cases e; exact ne
      | succ k => cases a
  · rcases List.mem_append.mp hy with z | z
    · exact h4 y z
    · have := List.mem_singleton.mp z
      cases this
      exact ⟨ne, fr⟩
/-- one of its lists of ints is changed in place, its length kept -/
theorem NestV.turn {H0 G : Hp} {p x : Addr} {vs : List V} {Ls : List Lay} {ws us : List Int} (h : NestV H0 G p vs Ls) (hx : G x = some (.lst (ws.map V.int))) (ne : x ≠ p) (hl : us.length = ws.length) :
    ∃ Ms : List Lay, NestV H0 (upd G x (.lst (us.map V.int))) p vs Ms ∧ Ms.map Lay.cnt = Ls.map Lay.cnt ∧ ∀ M ∈ Ms, M ∈ Ls ∨ (M = .pol us ∧ Lay.pol ws ∈ Ls) := by
  obtain ⟨h1, h2, h3, h4⟩ := h
  suffices key : ∀ (vs : List V) (Ls : List Lay), vs.length = Ls.length → (∀ (i : Nat) v L, vs[i]? = some v → Ls[i]? = some L → LayAt G v L) →
      ∃ Ms : List Lay, vs.length = Ms.length ∧ (∀ (i : Nat) v L, vs[i]? = some v → Ms[i]? = some L → LayAt (upd G x (.lst (us.map V.int))) v L) ∧ Ms.map Lay.cnt = Ls.map Lay.cnt ∧ ∀ M ∈ Ms, M ∈ Ls ∨ (M = .pol us ∧ Lay.pol ws ∈ Ls) by
    obtain ⟨Ms, k1, k2, k3, k4⟩ := key vs Ls h2 h3
    exact ⟨Ms, ⟨by rw [upd_ne ne.symm]; exact h1, k1, k2, h4⟩, k3, k4⟩
  clear h1 h2 h3 h4
  intro vs
  induction vs with
  | nil =>
    intro Ls hl _
    have : Ls = [] := List.length_eq_zero_iff.mp hl.symm
    subst this
    exact ⟨[], rfl, (fun _ _ _ z => nomatch z), rfl, (fun _ z => nomatch z)⟩
  | cons v vs ih =>
    intro Ls hlen hat
    cases Ls with
    | nil => cases hlen
    | cons L Ls =>
      obtain ⟨Ms, k1, k2, k3, k4⟩ := ih Ls (by simpa using hlen) fun i u M a b => hat (i + 1) u M a b
      have h0 := hat 0 v L rfl rfl
      by_cases e : v = V.ref x
      · subst e
        have hL : L = .pol ws := by
          cases L with
          | pol ns =>
            obtain ⟨y, e, z⟩ := h0
            cases e
            rw [hx] at z
            injection z with z
            injection z with z
            have : ∀ (as bs : List Int), as.map V.int = bs.map V.int → as = bs := by
              intro as
              induction as with
              | nil => intro bs q; cases bs with
                | nil => rfl
                | cons b bs => cases q
              | cons a as ih => intro bs q; cases bs with
                | nil => cases q
                | cons b bs =>
                  injection q with q1 q2
                  injection q1 with q1
                  rw [q1, ih bs q2]
            rw [this _ _ z]
          | con w n =>
            obtain ⟨y, e, z⟩ := h0
            cases e
            rw [hx] at z
            cases z
        refine ⟨.pol us :: Ms, by rw [List.length_cons, List.length_cons, k1], fun i u M a b => ?_, ?_, fun M hM => ?_⟩
        · cases i with
          | zero =>
            cases a
            cases b
            exact ⟨x, rfl, upd_same⟩
          | succ i => exact k2 i u M a b
        · rw [List.map_cons, List.map_cons, k3, hL]
          show ((us.length : Int) + 1) :: _ = ((ws.length : Int) + 1) :: _
          rw [hl]
        · rcases List.mem_cons.mp hM with z | z
          · exact .inr ⟨z, by rw [hL]; exact List.mem_cons_self⟩
          · rcases k4 M z with z | ⟨z1, z2⟩
            · exact .inl (List.mem_cons_of_mem _ z)
            · exact .inr ⟨z1, List.mem_cons_of_mem _ z2⟩
      · refine ⟨L :: Ms, by rw [List.length_cons, List.length_cons, k1], fun i u M a b => ?_, ?_, fun M hM => ?_⟩
        · cases i with
          | zero =>
            cases a
            cases b
            exact h0.keep fun y q z => e (by rw [q, z])
          | succ i => exact k2 i u M a b
        · rw [List.map_cons, List.map_cons, k3]
        · rcases List.mem_cons.mp hM with z | z
          · exact .inl (z ▸ List.mem_cons_self)
          · rcases k4 M z with z | ⟨z1, z2⟩
            · exact .inl (List.mem_cons_of_mem _ z)
            · exact .inr ⟨z1, List.mem_cons_of_mem _ z2⟩
theorem attOf_cnt : ∀ (Ls : List Lay) (t : Int), Ls.foldl (fun t L => t * L.cnt) t = (Ls.map Lay.cnt).foldl (fun t c => t * c) t
  | [], _ => rfl
  | L :: Ls, t => by
    rw [List.foldl_cons, List.map_cons, List.foldl_cons]
    exact attOf_cnt Ls _
theorem attOf_same {Ls Ms : List Lay} (h : Ms.map Lay.cnt = Ls.map Lay.cnt) : attOf Ms = attOf Ls := by
  unfold attOf
  rw [attOf_cnt, attOf_cnt, h]
/-- a layer that a law draws -/
def Lay.nice (L : Lay) : Prop := L.ok = true ∧ match L with
  | .pol ns => ns.length ≤ 60 ∧ ∀ x ∈ ns, 0 ≤ x ∧ x < 1000000000000
  | .con w n => w < 1000000000000 ∧ n < 1000000000000000000000
theorem Lay.nice_pol {ns : List Int} (h : ns.length ≤ 60) (hb : ∀ x ∈ ns, 0 ≤ x ∧ x < 1000000000000) : (Lay.pol ns).nice := ⟨pol_ok hb, h, hb⟩
theorem Lay.nice_con {w n : Int} (h0 : 0 ≤ w) (h1 : w < 1000000000000) (h2 : 1 ≤ n) (h3 : n < 1000000000000000000000) : (Lay.con w n).nice :=
  ⟨by rw [Lay.ok_con, decide_eq_true h0, decide_eq_true h2]; rfl, h1, h3⟩
theorem attOf_snoc (Ls : List Lay) (L : Lay) : attOf (Ls ++ [L]) = attOf Ls * L.cnt := by
  unfold attOf
  rw [List.foldl_append]
  rfl
theorem attOf_lt : ∀ n (Ls : List Lay), Ls.length = n → (∀ L ∈ Ls, L.ok = true ∧ L.cnt < 2 ^ 100) → 0 < attOf Ls ∧ (attOf Ls).natAbs < 2 ^ (100 * n + 1)
  | 0, Ls, e, _ => by
    have e' : Ls = [] := List.length_eq_zero_iff.mp e
    subst e'
    exact ⟨by decide, by decide⟩
  | n + 1, Ls, e, h => by
    have hne : Ls ≠ [] := fun z => by rw [z] at e; cases e
    obtain ⟨Ms, L, rfl⟩ : ∃ Ms L, Ls = Ms ++ [L] := ⟨_, _, (List.dropLast_concat_getLast hne).symm⟩
    rw [List.length_append] at e
    obtain ⟨i1, i2⟩ := attOf_lt n Ms (by simpa using e) fun M hM => h M (List.mem_append_left _ hM)
    obtain ⟨h1, h2⟩ := h L (List.mem_append_right _ List.mem_cons_self)
    have h3 := LayAt.con_pos h1
    rw [attOf_snoc]
    refine ⟨Int.mul_pos i1 (by omega), ?_⟩
    have z := wide_lt (i := attOf Ms) (j := L.cnt) (b := 100) i2 (by omega)
    rw [show 100 * (n + 1) + 1 = 100 * n + 1 + 100 by omega]
    exact z
theorem flatL_snoc (Ls : List Lay) (L : Lay) : flatL (Ls ++ [L]) = if L.cnt > 1 then nestL (flatL Ls) L.waits else flatL Ls := by
  unfold flatL
  rw [List.foldl_append]
  rfl
theorem waits_len {L : Lay} (h : L.ok = true) : (L.waits.length : Int) + 1 = L.cnt := by
  cases L with
  | pol ns => rfl
  | con w n =>
    have := LayAt.con_pos h
    have : 1 ≤ n := this
    show ((List.replicate (n - 1).toNat w).length : Int) + 1 = n
    rw [List.length_replicate]
    omega
theorem flatL_len : ∀ n (Ls : List Lay), Ls.length = n → (∀ L ∈ Ls, L.ok = true) → ((flatL Ls).length : Int) + 1 = attOf Ls
  | 0, Ls, e, _ => by
    have e' : Ls = [] := List.length_eq_zero_iff.mp e
    subst e'
    rfl
  | n + 1, Ls, e, h => by
    have hne : Ls ≠ [] := fun z => by rw [z] at e; cases e
    obtain ⟨Ms, L, rfl⟩ : ∃ Ms L, Ls = Ms ++ [L] := ⟨_, _, (List.dropLast_concat_getLast hne).symm⟩
    rw [List.length_append] at e
    have ih := flatL_len n Ms (by simpa using e) fun M hM => h M (List.mem_append_left _ hM)
    have h1 := h L (List.mem_append_right _ List.mem_cons_self)
    have h3 := LayAt.con_pos h1
    have h4 := waits_len h1
    rw [attOf_snoc, flatL_snoc, ← ih]
    split
    · have e5 := nestL_len (flatL Ms) L.waits
      rw [← h4]
      exact_mod_cast e5
    · have : L.cnt = 1 := by omega
      rw [this, Int.mul_one]
theorem attOf_part : ∀ (Ms Ls : List Lay), (∀ L ∈ Ls, L.ok = true) → (∀ L ∈ Ms, L.ok = true) → 1 ≤ attOf Ms ∧ attOf Ms ≤ attOf (Ms ++ Ls)
  | Ms, [], _, h => by
    rw [List.append_nil]
    refine ⟨?_, Int.le_refl _⟩
    have := flatL_len _ Ms rfl h
    omega
  | Ms, L :: Ls, h0, h => by
    have h1 := attOf_part (Ms ++ [L]) Ls (fun M hM => h0 M (List.mem_cons_of_mem _ hM)) (fun M hM => by
      rcases List.mem_append.mp hM with z | z
      · exact h M z
      · rw [List.mem_singleton.mp z]
        exact h0 L List.mem_cons_self)
    rw [List.append_assoc] at h1
    have h2 := LayAt.con_pos (h0 L List.mem_cons_self)
    have h3 := flatL_len _ Ms rfl h
    rw [attOf_snoc] at h1
    have h4 : attOf Ms * 1 ≤ attOf Ms * L.cnt := Int.mul_le_mul_of_nonneg_left h2 (by omega)
    refine ⟨by omega, ?_⟩
    have h5 : attOf Ms * L.cnt ≤ attOf (Ms ++ ([L] ++ Ls)) := h1.2
    have h6 : Ms ++ L :: Ls = Ms ++ ([L] ++ Ls) := rfl
    rw [h6]
    omega
theorem cnt_le {Ls : List Lay} (h : ∀ L ∈ Ls, L.ok = true) {L : Lay} (hL : L ∈ Ls) : L.cnt ≤ attOf Ls := by
  obtain ⟨As, Bs, rfl⟩ := List.append_of_mem hL
  have h1 := attOf_part As [] (fun _ z => nomatch z) (fun M hM => h M (List.mem_append_left _ hM))
  have h2 := attOf_part (As ++ [L]) Bs (fun M hM => h M (List.mem_append_right _ (List.mem_cons_of_mem _ hM))) (fun M hM => by
    rcases List.mem_append.mp hM with z | z
    · exact h M (List.mem_append_left _ z)
    · rw [List.mem_singleton.mp z]
      exact h L hL)
  have h3 := LayAt.con_pos (h L hL)
  rw [attOf_snoc, List.append_assoc] at h2
  have h4 : 1 * L.cnt ≤ attOf As * L.cnt := Int.mul_le_mul_of_nonneg_right h1.1 (by omega)
  have h5 : attOf As * L.cnt ≤ attOf (As ++ ([L] ++ Bs)) := h2.2
  have h6 : As ++ L :: Bs = As ++ ([L] ++ Bs) := rfl
  rw [h6]
  omega
theorem attOf_pos {Ls : List Lay} (h : ∀ L ∈ Ls, L.ok = true) : 1 ≤ attOf Ls := (attOf_part Ls [] (fun _ z => nomatch z) h).1
theorem part_left {t c left most : Int} (ht : 1 ≤ t) (hc : 1 ≤ c) (hl : c ≤ left) (h : t * left ≤ most) : 1 ≤ left / c ∧ t * c * (left / c) ≤ most := by
  refine ⟨by rw [Int.le_ediv_iff_mul_le (by omega)]; omega, ?_⟩
  have h1 : c * (left / c) ≤ left := by
    have := Int.mul_ediv_add_emod left c
    have := Int.emod_nonneg left (show c ≠ 0 by omega)
    omega
  rw [Int.mul_assoc]
  exact Int.le_trans (Int.mul_le_mul_of_nonneg_left h1 (by omega)) h
theorem le_left {t left most : Int} (ht : 1 ≤ t) (hl : 1 ≤ left) (h : t * left ≤ most) : t ≤ most := by
  have : t * 1 ≤ t * left := Int.mul_le_mul_of_nonneg_left hl (by omega)
  omega
theorem rep_flat {α : Type} (x : α) : ∀ m : Nat, (List.replicate m [x]).flatten = List.replicate m x
  | 0 => rfl
  | m + 1 => by
    rw [List.replicate_succ, List.flatten_cons, rep_flat x m, List.replicate_succ]
    rfl
def Lay.dat : Lay → PyData
  | .pol ns => dInts ns
  | .con w n => .tuple [.int w, .int n]
theorem dp_lay {K : PySem.W.Frag} {G : Hp} {v : V} {L : Lay} (h : LayAt G v L) : Dp K G v L.dat := by
  cases L with
  | pol ns => obtain ⟨p, rfl, hp⟩ := h; exact dp_ints (sql hp)
  | con w n => obtain ⟨p, rfl, hp⟩ := h; exact .tup (sqt hp) (.cons (.int w) (.cons (.int n) .nil))
theorem dp_lays {K : PySem.W.Frag} {G : Hp} : ∀ (vs : List V) (Ls : List Lay), vs.length = Ls.length → (∀ (i : Nat) v L, vs[i]? = some v → Ls[i]? = some L → LayAt G v L) → DpAll K G vs (Ls.map Lay.dat)
  | [], [], _, _ => .nil
  | [], _ :: _, h, _ => by cases h
  | _ :: _, [], h, _ => by cases h
  | v :: vs, L :: Ls, h, hat => .cons (dp_lay (hat 0 v L rfl rfl)) (dp_lays vs Ls (by simpa using h) fun i u M a b => hat (i + 1) u M a b)
theorem dp_nest {K : PySem.W.Frag} {G : Hp} {p : Addr} {Ls : List Lay} (h : NestAt G p Ls) : Dp K G (.ref p) (.list (Ls.map Lay.dat)) := by
  obtain ⟨vs, h1, h2, h3⟩ := h
  exact .lst (sql h1) (dp_lays vs Ls h2 h3)
theorem cut_one (xs : List V) : cutV xs none (some 1) = xs.take 1 := by
  unfold cutV
  rw [HT.sIx_none, show HT.sIx xs.length xs.length (some 1) = min 1 xs.length from HT.sIx_nat xs.length _ 1]
  cases xs with
  | nil => rfl
  | cons x r =>
    rw [show min 1 (x :: r).length = 1 by rw [List.length_cons]; omega]
    rfl
theorem flatL_con {w n : Int} (h0 : 0 ≤ w) (h1 : 1 ≤ n) : flatL [.con w n] = List.replicate (n - 1).toNat w := by
  rw [flatL_fold fun L hL => by rw [List.mem_singleton.mp hL, Lay.ok_con, decide_eq_true h0, decide_eq_true h1]; rfl]
  show nestL [] (List.replicate (n - 1).toNat w) = _
  rw [nil_nestL]
theorem NestV.low {H0 G : Hp} {a d p : Addr} {us : List V} {Ls : List Lay} (hv : NestV H0 (hid a d G) p us Ls) : NestAt G p Ls := by
  obtain ⟨z1, z2, z3, _⟩ := hv
  refine ⟨us, (hid_get z1).1, z2, fun i v L x y => ?_⟩
  have := z3 i v L x y
  cases L with
  | pol ns => obtain ⟨p, e, z⟩ := this; exact ⟨p, e, (hid_get z).1⟩
  | con w n => obtain ⟨p, e, z⟩ := this; exact ⟨p, e, (hid_get z).1⟩
theorem nice_cnt {L : Lay} (h : L.nice) : L.cnt < 2 ^ 100 := by
  obtain ⟨h0, h1⟩ := h
  cases L with
  | pol ns =>
    obtain ⟨h1, _⟩ := h1
    show (ns.length : Int) + 1 < 2 ^ 100
    omega
  | con w n =>
    obtain ⟨_, h1⟩ := h1
    show n < 2 ^ 100
    omega
theorem cut_n (xs : List V) (n : Nat) : cutV xs none (some (n : Int)) = xs.take n := by
  unfold cutV
  rw [HT.sIx_none, show HT.sIx xs.length xs.length (some (n : Int)) = min n xs.length from HT.sIx_nat xs.length _ n]
  show (xs.drop 0).take (min n xs.length - 0) = _
  rw [List.drop_zero, Nat.sub_zero]
  by_cases h : n ≤ xs.length
  · rw [Nat.min_eq_left h]
  · rw [Nat.min_eq_right (by omega), List.take_length, List.take_of_length_le (by omega)]
theorem cut_to (xs : List V) (n : Nat) : cutV xs (some (n : Int)) none = xs.drop n := by
  unfold cutV
  rw [HT.sIx_none, show HT.sIx xs.length 0 (some (n : Int)) = min n xs.length from HT.sIx_nat xs.length _ n]
  by_cases h : n ≤ xs.length
  · rw [Nat.min_eq_left h]
    exact List.take_of_length_le (by rw [List.length_drop]; omega)
  · rw [Nat.min_eq_right (by omega), List.drop_eq_nil_of_le (Nat.le_refl _), List.drop_eq_nil_of_le (by omega)]
    exact List.take_nil
theorem ne_same {d : PyData} {A B : Prop} (h : d.canLay0 = true) (b : B) : if (!PyData.eqv d d) = true then A else B := by
  rw [eqv_refl' d h]
  exact iteF b
theorem ne_val {x y : V} {A B : Prop} (h : x = y) (b : B) : if (!decide (x = y)) = true then A else B := by
  rw [h, decide_eq_true rfl]
  exact iteF b
end Rn

set_option Elab.async false
set_option linter.all false
set_option maxRecDepth 100000
set_option maxHeartbeats 4000000
namespace Rn
open PySem PySem.Spec PyProof.Rows L2
/-! ## repr of data; a law entered where no list is being shown -/
section
variable {X : Cx} {K : PySem.W.Frag}
def rRepr (K : PySem.W.Frag) : List V → Hp → VK → Prop := fun xs H Q => ∃ (p : Addr) (d : PyData), xs = [.ref p] ∧ Dp K H (.ref p) d ∧ d.showable = true ∧ d.hasDict = false ∧ d.depth ≤ 50 ∧ d.shown.length ≤ sizeLine ∧ Q (.str d.shown) H
theorem call_repr {k : Nat} (hg : X.A.guards = some []) (hr : Room k X.A) : CallR X (.builtin "repr") (rRepr X.K) := by
  intro pins s σ H xs us Q I r h
  obtain ⟨p, d, rfl, hd, hs, hh, hdep, hz, q⟩ := h
  cases r with
  | cons r1 r2 =>
    cases r2
    cases r1
    obtain ⟨as, rd⟩ := Dp.reads I d _ _ hd rfl
    have hu := hr.units
    exact repr_of_reads' rd hs (PyData.noDict_hsm hh) hg (by omega) (fun _ _ e => e) (fun h' u tk hk => ⟨.str d.shown, H, I.kept (t' := tk) hk, ⟨u, rfl⟩, q⟩) hz
end
section
variable {P : Program} {w : World} {K : PySem.W.Frag} {mg : Str → Option Value} {base : Heap}
/-- a promise that is kept wherever nothing is being shown -/
def FnG (P : Program) (w : World) (K : PySem.W.Frag) (mg : Str → Option Value) (base : Heap) (k : Nat) (f : Addr) (fd : FuncData) (ps : List Str) (sp : Sp) : Prop :=
  ∀ (A : Around) (outer : List Env) (s : Shared) (H : Hp) (args : Args) (us : List Value) (vs : List V) (Q : VK) (E : XK), A.guards = some [] → Room k A → Env0 P w K mg base A outer s H →
    BindsTo s fd args (ps.zip us) → Vals vs us → vs.length = ps.length → sp vs H Q E → codeAny (model P w) A (.call (.ref f) args) (CR CX0 outer P w H s Q E) s
theorem okG {x qual : Str} {st : Stmt} {f : Addr} {fd : FuncData} {N ps : List Str} {k : Nat} {sp : Sp} (F : Fun K x qual st f fd) (S : FnScope N ps (defScope st))
    (hbody : ∀ (cdv : Value) (A : Around) (outer : List Env) (s : Shared) (H : Hp) (vs : List V) (Q : VK) (E : XK), A.guards = some [] → Room k (A.deeper (envOfC qual (defScope st) s.heap.objs.size f cdv)) → sp vs H Q E →
      ∃ t, PSs (cxOf CX0 P w K mg base N qual (defScope st) f cdv A outer s H E).nox (defBody st) t ∧ t { nx := fun _ H' => Q .non H', rt := Q } (start N vs) H) :
    FnG P w K mg base (k + 1) f fd ps sp := by
  obtain ⟨oc, od, kV, doc, pm, an, cdv, ct, osl, efd, look, code⟩ := F.ex
  subst efd
  intro A outer s H args us vs Q E guard room e0 bind rel hlen want
  have same : ∀ b o, base.get? b = some o → s.heap.get? b = some o := fun b o z => (e0.bs b o z).1
  refine Att.call_fn (e0.mod.kin.keeps same) (e0.mod.nolimit.keeps same) look code room.depth bind ?_ (fun s1 x1 => ?_) S.co S.gen S.kind
  · rw [List.all_eq_true]
    rintro ⟨n, v⟩ hm
    rcases S.par n (List.of_mem_zip hm).1 with z | z
    · simp [z]
    · simp [z]
  obtain ⟨t, ht, hq⟩ := hbody cdv A outer s H vs Q E guard (room.deeper _) want
  have start0 : Inv (cxOf CX0 P w K mg base N qual (defScope st) f cdv A outer s H E) [] (start N vs) H s1 := inv_start S room.hd e0 hlen rel x1
  refine wpAny_mono (ht.nox.run [] s1 _ H _ start0 hq) (fun flow s2 done => ?_) (fun _ _ z => z)
  cases flow with
  | brk => exact (by obtain ⟨_, _, _, z⟩ := done; exact False.elim z)
  | cont => exact (by obtain ⟨_, _, _, z⟩ := done; exact False.elim z)
  | next =>
    obtain ⟨_, H2, J, z⟩ := done
    exact ⟨.non, H2, J.os, J.bare, J.base, J.hok, rfl, z⟩
  | ret u =>
    obtain ⟨v, _, H2, J, rv, z⟩ := done
    exact ⟨v, H2, J.os, J.bare, J.base, J.hok, rv, z⟩
/-- the heap's view at a law's entry: the script is known to the object, unless it is one of the text's own -/
def seen (K : PySem.W.Frag) (a : Addr) (vs : List Value) (ns : List Int) : Hp := fun b =>
  if b = a ∧ K.lookup a = none then some (.frz { cls := .type "list", data := .seq vs.toArray } (.lst (ns.map V.int))) else none
theorem seen_some {a b : Addr} {vs : List Value} {ns : List Int} {o : HO} (h : seen K a vs ns b = some o) : b = a ∧ K.lookup a = none ∧ o = .frz { cls := .type "list", data := .seq vs.toArray } (.lst (ns.map V.int)) := by
  unfold seen at h
  by_cases z : b = a ∧ K.lookup a = none
  · rw [if_pos z] at h
    exact ⟨z.1, z.2, (Option.some.inj h).symm⟩
  · rw [if_neg z] at h
    cases h
theorem law_at {mb : Str → Option Value} {fa a : Addr} {s1 : Shared} {vs : List Value} {ns : List Int} (hK : K.In s1.heap) (hmg : s1.heap.Ns mainGlobals mg) (hmb : s1.heap.Ns builtinsNs mb)
    (hbo : ∀ x : Str, x ≠ "__name__" → mb x = bootBuiltins x) (lim : s1.heap.NoLimit) (gens : s1.gens = #[]) (here : s1.heap.get? a = some { cls := .type "list", data := .seq vs.toArray }) (nums : IntsAre vs ns) (few : ns.length ≤ 63)
    (run : ∀ (base : Heap) (H : Hp), K.In base → base.Ns mainGlobals mg → Env0 P w K mg base callerA [] s1 H → SqL K H a (ns.map V.int) → codeAny (model P w) callerA (.call (.ref fa) ⟨[.ref a], []⟩) (CR CX0 [] P w H s1 (fun v _ => v = .bl true) E0) s1) :
    codeAny (model P w) callerA (.call (.ref fa) ⟨[.ref a], []⟩) (fun r s' => r = .ok (.ret (.bool true)) ∧ OldK s1.heap s'.heap ∧ s'.os = s1.os ∧ AllBare s'.gens) s1 := by
  have rel := vals_ints nums
  have cnt := nums.length
  have notDict : ∀ {b : Addr} {m : Str → Option Value}, s1.heap.Ns b m → seen K a vs ns b = none := fun {b m} z => by
    obtain ⟨o, es, ep, e, d, _⟩ := z
    cases q : seen K a vs ns b with
    | none => rfl
    | some u =>
      obtain ⟨eb, _, _⟩ := seen_some q
      rw [eb, here] at e
      cases e
      cases d
  have shift : ∀ {b : Addr} {m : Str → Option Value}, s1.heap.Ns b m → (hidT s1.heap (seen K a vs ns)).Ns b m := fun z => by
    have n := notDict z
    obtain ⟨o, es, ep, e, r⟩ := z
    exact ⟨o, es, ep, hidT_get e n, r⟩
  have kin : K.In (hidT s1.heap (seen K a vs ns)) := fun b o e => hidT_get (hK b o e) (by
    cases q : seen K a vs ns b with
    | none => rfl
    | some u =>
      obtain ⟨eb, en, _⟩ := seen_some q
      rw [eb, en] at e
      cases e)
  have hok : HOk P w (seen K a vs ns) s1.heap := fun b o e => by
    obtain ⟨rfl, _, rfl⟩ := seen_some e
    exact ⟨here, size_le (by rw [List.length_map]; omega), vs, _, rel, here⟩
  have env : Env0 P w K mg (hidT s1.heap (seen K a vs ns)) callerA [] s1 (seen K a vs ns) :=
    ⟨rfl, ⟨kin, shift hmg, ⟨mb, shift hmb, hbo⟩, by obtain ⟨mc, z1, z2⟩ := lim; exact ⟨mc, shift z1, z2⟩⟩, fun b o e => of_hidT e, Nat.le_of_eq (hidT_size _ _), trivial, (fun b z => nomatch z), hok, .of_eq gens⟩
  have script : SqL K (seen K a vs ns) a (ns.map V.int) := by
    cases q : K.lookup a with
    | none => exact .inl (.inr ⟨_, if_pos ⟨rfl, q⟩⟩)
    | some o =>
      have e := hK a o q
      rw [here] at e
      cases e
      exact .inr ⟨_, vs.toArray, _, q, rfl, rfl, rfl, by rw [List.size_toArray, cnt]; exact size_le (by omega), by simpa using rel⟩
  refine codeAny_mono (run _ _ kin (shift hmg) env script) fun r s' z => ?_
  cases r with
  | error e => exact False.elim z
  | ok flow =>
    cases flow with
    | brk => exact False.elim z
    | cont => exact False.elim z
    | next => exact False.elim z
    | ret u =>
      obtain ⟨v, H', os, bare, un, hok', rv, (rfl : v = .bl true)⟩ := z
      cases (show u = Value.bool true from rv)
      refine ⟨rfl, OldK.of_keep fun b o e => ?_, os, bare⟩
      cases q : seen K a vs ns b with
      | none => exact un.keep b o e q (fun z => nomatch z) (fun z => nomatch z)
      | some y =>
        obtain ⟨_, _, rfl⟩ := seen_some q
        obtain ⟨e2, _⟩ := hok' b _ (un.frzs b _ _ q)
        obtain ⟨e1, _⟩ := hok b _ q
        rw [e] at e1
        cases e1
        exact e2
end
/-- the walk's end for a law that shows lists -/
theorem walk_G {l : PySem.W.OpenLaw} {k : Nat} {q : Program} {loose : List Str} {XP : (Str → Option Value) → Heap → Prop} {YP : World → Heap → Prop} {d : DefRec} {K : Params → PySem.W.Frag} {sp : PySem.W.Frag → Sp}
    (hn : l.most = some 63) (hdf : d.params.defaults = []) (hr : Room k callerA) (hY : ∀ (w : World) (h : Heap), YP w h → (K w.params).In h)
    (F : ∀ (w : World) (mg : Str → Option Value) (fa : Addr) (h : Heap), (K w.params).In h → h.Ns mainGlobals mg → mg d.name = some (.ref fa) →
      ∃ fd : FuncData, (∀ (s : Shared) (u : Value), BindsTo s fd ⟨[u], []⟩ [("script", u)]) ∧ ∀ base : Heap, (K w.params).In base → base.Ns mainGlobals mg → FnG l.prog w (K w.params) mg base k fa fd ["script"] (sp (K w.params)))
    (hsp : ∀ (K : PySem.W.Frag) (H : Hp) (a : Addr) (ns : List Int), ns.length ≤ 63 → SqL K H a (ns.map V.int) → sp K [.ref a] H (fun v _ => v = .bl true) E0) :
    PySem.W.WalkO q loose XP YP l.row.toRowW d [] (fun f vs => PySem.call f vs) := by
  refine Att.attach_call hn hdf fun w s0 s1 mg mb fa o pm cd doc a vs ns G Y _ _ _ hmg here nums few gens => ?_
  obtain ⟨fd, bind, run⟩ := F w mg fa _ (hY w _ Y) G.T.g hmg
  exact law_at (hY w _ Y) G.T.g G.T.b G.T.builtins G.T.nolimit gens here nums few fun base H kin ns1 env script =>
    run base kin ns1 callerA [] s1 H _ [.ref a] [.ref a] _ _ rfl hr env (bind s1 (.ref a)) (.cons rfl .nil) rfl (hsp _ H a ns few script)
end Rn
namespace Rn
open PySem PySem.Spec PyProof.Rows L2
/-! ## calls by keywords alone -/
def tCallKw (sp : Sp) (gV : List V → List V → List V) (E : XK) (tk : TA) : TE := fun σ H Q => tk σ H fun zs H1 => sp (gV [] zs) H1 Q E
section
variable {X : Cx} {CX : CXT} {k : Nat} {f : Addr} {fd : FuncData} {ps ks : List Str} {sp : Sp} {E : XK} {x : Str} {p pos : Pos} {kws : List Keyword} {tk : TA} {g : List Value → List Value → List Value} {gV : List V → List V → List V}
theorem pe_callKw (F : FnOk X.prog X.w X.K X.mg X.base CX k f fd ps sp) (room : Room k X.A) (hg : Gl X x) (here : X.mg x = some (.ref f)) (keep : PySem.W.keepIn X.K (.ref f) = true) (bind : KBinds X.K fd ps ks g gV) (out : Passes CX X E)
    (hkw : PK X kws tk) (named : (backToKw pos (keywordEach kws X.env)).all (·.1.isSome) = true := by rfl) (order : (backToKw pos (keywordEach kws X.env)).filterMap (·.1) = ks := by rfl)
    (nodebug : (x == ("__debug__" : Str)) = false := by decide) (plain : ((backTo pos (starEach [] X.env)).any (·.1) || (backToKw pos (keywordEach kws X.env)).any (·.1.isNone)) = false := by rfl) :
    PE X (.Call (.Name x p) [] kws pos) (tCallKw sp gV E tk) := by
  constructor
  intro pins s σ H Q I h
  refine wpAny_Call_Name_kw (ld_glob I hg here ?_ nodebug)
  refine PySem.W.callWith_KW0 (h₀ := X.base) I.ok.mod.kin keep named (thn (hkw.run pos pins s σ H _ I h) fun ws s2 z => ?_) plain
  obtain ⟨zs, H2, I2, rz, q2⟩ := z
  rw [order]
  exact ⟨I2.kIn, run_fnk (us := []) (vs := []) F room bind out I2 .nil rz q2⟩
end
def kw1 {α : Type} : List α → List α → List α
  | [], [a] => [a]
  | _, _ => []
def kw2r {α : Type} : List α → List α → List α
  | [], [a, b] => [b, a]
  | _, _ => []
section
variable {K : PySem.W.Frag} {fd : FuncData} {p q : Str}
theorem kb1 (h : ∀ (s : Shared) (a : Value), BindsTo s fd ⟨[], [(p, a)]⟩ [(p, a)]) : KBinds K fd [p] [p] kw1 kw1 := by
  refine ⟨fun s us ws _ hl => ?_, fun {vs us zs ws} r1 r2 => ?_⟩
  · match us, ws, hl with
    | [], [a], _ => exact h s a
  · cases r1 with
    | cons _ _ => exact .nil
    | nil =>
      cases r2 with
      | nil => exact .nil
      | cons a r =>
        cases r with
        | nil => exact .cons a .nil
        | cons _ _ => exact .nil
theorem kb2r (h : ∀ (s : Shared) (a b : Value), BindsTo s fd ⟨[], [(q, a), (p, b)]⟩ [(p, b), (q, a)]) : KBinds K fd [p, q] [q, p] kw2r kw2r := by
  refine ⟨fun s us ws _ hl => ?_, fun {vs us zs ws} r1 r2 => ?_⟩
  · match us, ws, hl with
    | [], [a, b], _ => exact h s a b
  · cases r1 with
    | cons _ _ => exact .nil
    | nil =>
      cases r2 with
      | nil => exact .nil
      | cons a r =>
        cases r with
        | nil => exact .nil
        | cons b r =>
          cases r with
          | nil => exact .cons b (.cons a .nil)
          | cons _ _ => exact .nil
end
/-! ## data that can be shown -/
structure Shw (d : PyData) (W D : Nat) : Prop where
  show1 : d.showable = true
  plain : d.hasDict = false
  short : d.leavesShort 25 = true
  heavy : d.weight ≤ W
  deep : d.depth ≤ D
theorem Shw.fits {d : PyData} {W D : Nat} (s : Shw d W D) (h : W ≤ 500000) : d.shown.length ≤ sizeLine := by
  have h1 := PyData.shown_le 25 (by decide) d s.short
  have h2 := s.heavy
  have h3 : (25 + 2) * d.weight ≤ 27 * 500000 := Nat.mul_le_mul (by decide) (by omega)
  rw [sizeLine_eq]
  omega
theorem log_lt {i : Int} (h : i.natAbs < 10 ^ 24) : i.natAbs.log2 < 80 := PySem.Flt.log2_lt_of (k := 80) (by decide) (Nat.lt_trans h (by decide))
theorem Shw.int {i : Int} (h : i.natAbs < 10 ^ 24) : Shw (.int i) 80 1 := by
  have h1 := log_lt h
  refine ⟨?_, rfl, ?_, ?_, ?_⟩
  · simp only [PyData.showable, decide_eq_true_eq]
    omega
  · simp only [PyData.leavesShort, decide_eq_true_eq]
    have e := int_text_length_le10 (k := 24) (by decide) h
    show (Str.ofString (toString i)).length ≤ 25
    rw [PySem.ofString_length]
    exact e
  · simp only [PyData.weight]
    split
    · omega
    · omega
  · simp only [PyData.depth]
    omega
theorem Shw.all {W D : Nat} : ∀ ds : List PyData, (∀ d ∈ ds, Shw d W D) → PyData.showableAll ds = true ∧ PyData.hasDictAll ds = false ∧ PyData.leavesShortAll 25 ds = true ∧ PyData.weightAll ds ≤ ds.length * (W + 1) ∧ PyData.depthAll ds ≤ D
  | [], _ => ⟨rfl, rfl, rfl, Nat.zero_le _, Nat.zero_le _⟩
  | d :: ds, h => by
    obtain ⟨a1, a2, a3, a4, a5⟩ := Shw.all ds fun e he => h e (List.mem_cons_of_mem _ he)
    obtain ⟨b1, b2, b3, b4, b5⟩ := h d List.mem_cons_self
    refine ⟨?_, ?_, ?_, ?_, ?_⟩
    · simp only [PyData.showableAll, b1, a1, Bool.and_self]
    · simp only [PyData.hasDictAll, b2, a2, Bool.or_self]
    · simp only [PyData.leavesShortAll, b3, a3, Bool.and_self]
    · simp only [PyData.weightAll, List.length_cons, Nat.succ_mul]
      omega
    · simp only [PyData.depthAll]
      omega
theorem Shw.list {W D : Nat} {ds : List PyData} (h : ∀ d ∈ ds, Shw d W D) : Shw (.list ds) (ds.length * (W + 1)) (D + 1) := by
  obtain ⟨a1, a2, a3, a4, a5⟩ := Shw.all ds h
  exact ⟨by simpa only [PyData.showable] using a1, by simpa only [PyData.hasDict] using a2, by simpa only [PyData.leavesShort] using a3, by simpa only [PyData.weight] using a4, by simp only [PyData.depth]; omega⟩
theorem Shw.tuple {W D : Nat} {ds : List PyData} (h : ∀ d ∈ ds, Shw d W D) : Shw (.tuple ds) (ds.length * (W + 1)) (D + 1) := by
  obtain ⟨a1, a2, a3, a4, a5⟩ := Shw.all ds h
  exact ⟨by simpa only [PyData.showable] using a1, by simpa only [PyData.hasDict] using a2, by simpa only [PyData.leavesShort] using a3, by simpa only [PyData.weight] using a4, by simp only [PyData.depth]; omega⟩
theorem Shw.mono {d : PyData} {W W' D D' : Nat} (s : Shw d W D) (h : W ≤ W') (h' : D ≤ D') : Shw d W' D' := ⟨s.1, s.2, s.3, Nat.le_trans s.4 h, Nat.le_trans s.5 h'⟩
theorem Shw.nums {ns : List Int} (h : ∀ x ∈ ns, x.natAbs < 10 ^ 24) : Shw (dInts ns) (ns.length * 81) 2 := by
  have := Shw.list (ds := ns.map .int) (W := 80) (D := 1) fun d hd => by
    obtain ⟨x, hx, rfl⟩ := List.mem_map.mp hd
    exact Shw.int (h x hx)
  rw [List.length_map] at this
  exact this
theorem Shw.two {d e : PyData} {W D : Nat} (h1 : Shw d W D) (h2 : Shw e W D) : Shw (.list [d, e]) (2 * (W + 1)) (D + 1) :=
  Shw.list (ds := [d, e]) fun x hx => by
    simp only [List.mem_cons, List.not_mem_nil, or_false] at hx
    rcases hx with rfl | rfl
    · exact h1
    · exact h2
theorem ne_str {x y : Str} {A B : Prop} (h : x = y) (b : B) : if (!decide (V.str x = V.str y)) = true then A else B := by
  rw [h, decide_eq_true rfl]
  exact iteF b
theorem Shw.lay {L : Lay} (h : L.nice) : Shw L.dat 4860 2 := by
  obtain ⟨h0, h1⟩ := h
  cases L with
  | pol ns =>
    obtain ⟨h1, h2⟩ := h1
    exact (Shw.nums fun x hx => by have := h2 x hx; omega).mono (by omega) (Nat.le_refl _)
  | con w n =>
    obtain ⟨h1, h2⟩ := h1
    have h3 := LayAt.con_pos h0
    have h3 : 1 ≤ n := h3
    rw [Lay.ok_con, Bool.and_eq_true] at h0
    have h4 := of_decide_eq_true h0.1
    refine (Shw.tuple (ds := [.int w, .int n]) (W := 80) (D := 1) fun d hd => ?_).mono (by show 2 * 81 ≤ 4860; decide) (Nat.le_refl _)
    simp only [List.mem_cons, List.not_mem_nil, or_false] at hd
    rcases hd with rfl | rfl
    · exact Shw.int (by omega)
    · exact Shw.int (by omega)
theorem Shw.nest {Ls : List Lay} {m : Nat} (h : ∀ L ∈ Ls, L.nice) (hl : Ls.length ≤ m) : Shw (.list (Ls.map Lay.dat)) (m * 4861) 3 := by
  refine (Shw.list (ds := Ls.map Lay.dat) (W := 4860) (D := 2) fun d hd => ?_).mono (by rw [List.length_map]; exact Nat.mul_le_mul_right _ hl) (Nat.le_refl _)
  obtain ⟨L, hL, rfl⟩ := List.mem_map.mp hd
  exact Shw.lay (h L hL)
end Rn

set_option Elab.async false
set_option linter.all false
set_option maxRecDepth 100000
set_option maxHeartbeats 4000000
namespace Rn
open PySem PySem.Spec PyProof.Rows L2
/-! ## calls of a def that shows lists, where nothing is being shown -/
structure FnH (P : Program) (w : World) (K : PySem.W.Frag) (mg : Str → Option Value) (base : Heap) (k : Nat) (f : Addr) (fd : FuncData) (ps : List Str) (sp : Sp) : Prop where
  len : ∀ vs H Q E, sp vs H Q E → vs.length = ps.length
  run : FnG P w K mg base k f fd ps sp
theorem FnH.mono {P : Program} {w : World} {K : PySem.W.Frag} {mg : Str → Option Value} {base : Heap} {j k : Nat} {f : Addr} {fd : FuncData} {ps : List Str} {sp : Sp} (F : FnH P w K mg base j f fd ps sp) (h : j ≤ k) : FnH P w K mg base k f fd ps sp :=
  ⟨F.len, fun A outer s H args us vs Q E gu hr => F.run A outer s H args us vs Q E gu (hr.mono h)⟩
section
variable {X : Cx} {k : Nat} {f : Addr} {fd : FuncData} {ps : List Str} {sp : Sp} {E : XK} {x : Str} {e : Expr} {es : List Expr} {t : TA} {p pos : Pos}
theorem run_fnG {pins : List (Addr × Obj)} {σ : L2.St} {H : Hp} {s : Shared} {Q : VK} {us : List Value} {vs : List V} (F : FnH X.prog X.w X.K X.mg X.base k f fd ps sp) (gu : X.A.guards = some []) (hr : Room k X.A) (hb : Binds X.K fd ps []) (hx : Passes CX0 X E)
    (I : Inv X pins σ H s) (r : Vals vs us) (h : sp (vs ++ []) H Q E) : wpAny (model X.prog X.w) X.A (call (.ref f) us) (EP X pins σ Q) X.xe s := by
  have r2 : Vals (vs ++ []) (us ++ []) := r.append .nil
  have hl : (us ++ []).length = ps.length := by rw [← r2.length]; exact F.len _ _ _ _ h
  refine wpAny_call (codeAny_mono (F.run X.A X.stack s H ⟨us, []⟩ (us ++ []) (vs ++ []) Q E gu hr I.env0 (hb s us I.kIn hl) r2 (F.len _ _ _ _ h) h) fun r s' hq => ?_)
  cases r with
  | error e => exact hx pins σ H s e s' I hq
  | ok fl =>
    cases fl with
    | ret u => exact I.after hq
    | next => exact False.elim hq
    | brk => exact False.elim hq
    | cont => exact False.elim hq
theorem pe_callG (F : FnH X.prog X.w X.K X.mg X.base k f fd ps sp) (gu : X.A.guards = some []) (hr : Room k X.A) (hg : Gl X x) (hm : X.mg x = some (.ref f)) (hk : PySem.W.keepIn X.K (.ref f) = true) (hb : Binds X.K fd ps []) (hx : Passes CX0 X E)
    (ha : PA X (e :: es) t) (hdb : (x == ("__debug__" : Str)) = false := by decide) (he : starEach (e :: es) X.env = (false, eval e X.env) :: starEach es X.env := by rfl) (hpl : (backTo pos (starEach es X.env)).any (·.1) = false := by rfl) :
    PE X (.Call (.Name x p) (e :: es) [] pos) (tCall sp [] E t) := by
  refine ⟨fun pins s σ H Q I h => ?_⟩
  refine wpAny_Call_Name_kw (ld_glob I hg hm ?_ hdb)
  refine PySem.W.callWith_K (h₀ := X.base) I.ok.mod.kin hk (thn (ha.run pos pins s σ H _ I h) fun us s1 ⟨vs, H1, I1, r, q⟩ => ⟨I1.kIn, ?_⟩) he hpl
  exact run_fnG F gu hr hb hx I1 r q
end
end Rn
namespace Rn
open PySem PySem.Spec PyProof.Rows L2
/-! ## repr of None, a bool, an int -/
def rReprS : List V → Hp → VK → Prop := fun xs H Q => (xs = [.non] ∧ Q (.str "None") H) ∨ (∃ b, xs = [.bl b] ∧ Q (.str (if b then "True" else "False")) H) ∨ (∃ i : Int, xs = [.int i] ∧ i.natAbs.log2 < 1920 ∧ Q (.str (toString i)) H)
section
variable {X : Cx}
theorem call_reprS : CallR X (.builtin "repr") rReprS := by
  intro pins s σ H xs us Q I r h
  rcases h with ⟨rfl, q⟩ | ⟨b, rfl, q⟩ | ⟨i, rfl, hi, q⟩
  · cases r with
    | cons r1 r2 =>
      cases r2
      cases r1
      exact PySem.P.repr_of_none ⟨.str _, H, I.tok _, ⟨_, rfl⟩, q⟩
  · cases r with
    | cons r1 r2 =>
      cases r2
      cases r1
      exact PySem.P.repr_of_bool ⟨.str _, H, I.tok _, ⟨_, rfl⟩, q⟩
  · cases r with
    | cons r1 r2 =>
      cases r2
      obtain ⟨t, rfl⟩ := r1
      exact PySem.P.repr_of_int hi ⟨.str _, H, I.tok _, ⟨_, rfl⟩, q⟩
end
end Rn

set_option Elab.async false
set_option linter.all false
set_option maxRecDepth 100000
set_option maxHeartbeats 4000000
namespace Rn
open PySem PySem.Spec PyProof.Rows L2
/-! ## ** of great ints -/
def CPowW (i j : Int) : Prop := 0 ≤ j ∧ (Builtin.Int.intBits i : Int) * j ≤ 2 ^ 27
theorem op_powW {X : Cx} : OpR X (binaryOp .Pow) (rI CPowW fun i j => .int (i ^ j.toNat)) := opI fun _ _ _ _ _ _ _ hc q => pow_int hc.1 hc.2 q
theorem pow_ok {i : Int} {k : Nat} (h : i.natAbs < 2 ^ k) (h0 : 0 < k) (hk : k ≤ 1000) : CPowW i 3 := by
  refine ⟨by decide, ?_⟩
  have h1 := PySem.Flt.log2_lt_of h0 h
  have h2 : Builtin.Int.intBits i ≤ i.natAbs.log2 + 1 := by
    unfold Builtin.Int.intBits
    split <;> omega
  omega
/-! ## the other source of draws: three ints in one list -/
def Rng (H : Hp) (a : Addr) (n : Int) : Prop := ∃ dg seed cnt : Int, H a = some (.lst [.int dg, .int seed, .int cnt]) ∧ 0 ≤ seed ∧ seed < 4000000000000000000 ∧ 0 ≤ cnt ∧ cnt ≤ n
theorem Rng.same {H H' : Hp} {a : Addr} {n : Int} (s : Rng H a n) (e : Same H H') : Rng H' a n := by
  obtain ⟨dg, seed, cnt, h, r⟩ := s
  exact ⟨dg, seed, cnt, e _ _ h, r⟩
theorem Rng.keep {H : Hp} {a p : Addr} {o : HO} {n : Int} (s : Rng H a n) (ha : p ≠ a) : Rng (upd H p o) a n := by
  obtain ⟨dg, seed, cnt, h, r⟩ := s
  exact ⟨dg, seed, cnt, by rw [upd_ne ha.symm]; exact h, r⟩
theorem Rng.mono {H : Hp} {a : Addr} {n m : Int} (s : Rng H a n) (h : n ≤ m) : Rng H a m := by
  obtain ⟨dg, seed, cnt, h1, h2, h3, h4, h5⟩ := s
  exact ⟨dg, seed, cnt, h1, h2, h3, h4, Int.le_trans h5 h⟩
theorem Rng.new1 {H : Hp} {a p : Addr} {n : Int} (s : Rng H a n) (h : H p = none) : p ≠ a := by
  obtain ⟨dg, seed, cnt, h1, _⟩ := s
  exact (ne_of_none h1 h).symm
structure Rdv (a : Addr) (c : Int) (H H' : Hp) : Prop where
  same : Same (hid a a H) (hid a a H')
  src : ∀ n, Rng H a n → Rng H' a (n + c)
theorem Rdv.refl {a : Addr} {H : Hp} : Rdv a 0 H H := ⟨Same.refl _, fun n s => s.mono (by omega)⟩
theorem Rdv.trans {a : Addr} {c c' e : Int} {H H1 H2 : Hp} (x : Rdv a c H H1) (y : Rdv a c' H1 H2) (h : c + c' ≤ e) : Rdv a e H H2 :=
  ⟨x.same.trans y.same, fun n s => (y.src _ (x.src _ s)).mono (by omega)⟩
theorem Rdv.mono {a : Addr} {c e : Int} {H H1 : Hp} (x : Rdv a c H H1) (h : c ≤ e) : Rdv a e H H1 := ⟨x.same, fun n s => (x.src _ s).mono (by omega)⟩
theorem Rdv.of {a : Addr} {H H' : Hp} (e : Same H H') : Rdv a 0 H H' := ⟨hid_same e, fun n s => (s.same e).mono (by omega)⟩
theorem Rdv.mut {a : Addr} {c : Int} {H H' : Hp} {p : Addr} {o : HO} {n : Int} (x : Rdv a c H H') (s : Rng H a n) (h : H p = none) : Rdv a c H (upd H' p o) := by
  have h1 := s.new1 h
  refine ⟨?_, fun m t => (x.src m t).keep h1⟩
  rw [hid_oth h1 h1]
  exact same_keep x.same (hid_none h)
theorem Rdv.free {a p : Addr} {c n : Int} {H H' : Hp} (x : Rdv a c H H') (s : Rng H a n) (h : H' p = none) : H p = none := by
  have h1 := (x.src n s).new1 h
  cases q : H p with
  | none => rfl
  | some o =>
    have e := (hid_get (x.same p o (hid_at q h1 h1))).1
    rw [h] at e
    cases e
theorem Rdv.made {a : Addr} {c dg seed cnt dg' cnt' : Int} {H H' : Hp} (e : Same (hid a a H) (hid a a H')) (h : H a = some (.lst [.int dg, .int seed, .int cnt]))
    (h' : H' a = some (.lst [.int dg', .int seed, .int cnt'])) (h0 : cnt ≤ cnt') (h1 : cnt' ≤ cnt + c) : Rdv a c H H' := by
  refine ⟨e, fun n s => ?_⟩
  obtain ⟨d2, s2, c2, a1, a3, a4, a5, a6⟩ := s
  rw [h] at a1
  cases a1
  exact ⟨dg', seed, cnt', h', a3, a4, by omega, by omega⟩
/-! ## an expression cut off by a word of its own -/
def tCutE (t : TE) : TE := fun σ H Q => ∃ R : V → Hp → Prop, t σ H R ∧ ∀ v H', R v H' → Q v H'
theorem pe_cutE {X : Cx} {e : Expr} {t : TE} (h : PE X e t) : PE X e (tCutE t) := ⟨fun pins s σ H Q I hw =>
  let ⟨R, h1, h2⟩ := hw
  thn (h.run pins s σ H R I h1) fun v s1 ⟨x, H1, I1, r1, q1⟩ => ⟨x, H1, I1, r1, h2 _ _ q1⟩⟩
end Rn

set_option Elab.async false
set_option linter.all false
set_option maxRecDepth 100000
set_option maxHeartbeats 4000000
namespace Rn
open PySem PySem.Spec PyProof.Rows L2
/-! ## slices between numbers, and by steps -/
theorem cut_mid (xs : List V) (a b : Nat) : cutV xs (some (a : Int)) (some (b : Int)) = (xs.drop a).take (b - a) := by
  unfold cutV
  rw [show HT.sIx xs.length 0 (some (a : Int)) = min a xs.length from HT.sIx_nat xs.length _ a, show HT.sIx xs.length xs.length (some (b : Int)) = min b xs.length from HT.sIx_nat xs.length _ b]
  by_cases ha : a ≤ xs.length
  · rw [Nat.min_eq_left ha]
    by_cases hb : b ≤ xs.length
    · rw [Nat.min_eq_left hb]
    · rw [Nat.min_eq_right (by omega), List.take_of_length_le (by rw [List.length_drop]; omega), List.take_of_length_le (by rw [List.length_drop]; omega)]
  · rw [show min a xs.length = xs.length by omega, List.drop_eq_nil_of_le (Nat.le_refl _), List.drop_eq_nil_of_le (show xs.length ≤ a by omega), List.take_nil, List.take_nil]
/-- xs[lo], xs[lo + c], .. -/
def pks {α : Type} (xs : List α) (lo c : Nat) : List α := ((List.range ((xs.length - lo + c - 1) / c)).map fun k => lo + c * k).filterMap fun i => xs[i]?
theorem pks_map {α β : Type} (f : α → β) (xs : List α) (lo c : Nat) : pks (xs.map f) lo c = (pks xs lo c).map f := by
  unfold pks
  rw [List.length_map, List.map_filterMap]
  congr 1
  funext i
  rw [List.getElem?_map]
theorem vals_at {xs : List V} {us : List Value} (h : Vals xs us) : ∀ is : List Nat, Vals (is.filterMap fun i => xs[i]?) (is.filterMap fun i => us[i]?)
  | [] => .nil
  | i :: is => by
    have ih := vals_at h is
    by_cases hi : i < xs.length
    · obtain ⟨u, hu, r⟩ := Vals.get h (List.getElem?_eq_getElem hi)
      rw [List.filterMap_cons_some (List.getElem?_eq_getElem hi), List.filterMap_cons_some hu]
      exact .cons r ih
    · rw [List.filterMap_cons_none (List.getElem?_eq_none (by omega)), List.filterMap_cons_none (List.getElem?_eq_none (by rw [← h.length]; omega))]
      exact ih
theorem pick_k (its : Array Value) (lo c : Nat) (hl : lo ≤ its.size) (hc : 1 ≤ c) : (slicePick its (some (lo : Int)) none (some (c : Int))).toList = pks its.toList lo c := by
  have hb : sliceBounds (some (lo : Int)) none (some (c : Int)) its.size = ((lo : Int), (its.size : Int), (c : Int)) := by
    unfold sliceBounds
    simp only [Option.getD_some]
    rw [if_pos (show (c : Int) > 0 by omega), if_neg (show ¬ (lo : Int) < 0 by omega)]
    refine Prod.ext ?_ (Prod.ext ?_ rfl)
    · show max 0 (min (lo : Int) its.size) = (lo : Int)
      omega
    · show (if (c : Int) > 0 then (its.size : Int) else _) = _
      rw [if_pos (show (c : Int) > 0 by omega)]
  unfold slicePick pks
  rw [hb]
  have hr : sliceRange (lo : Int) (its.size : Int) (c : Int) = (List.range ((its.toList.length - lo + c - 1) / c)).map fun k => lo + c * k := by
    unfold sliceRange
    have hn : (if (c : Int) > 0 then (if (lo : Int) < (its.size : Int) then ((its.size : Int) - lo + c - 1) / c else 0) else (if (lo : Int) > (its.size : Int) then ((lo : Int) - its.size - c - 1) / (-c) else 0)).toNat = (its.toList.length - lo + c - 1) / c := by
      rw [if_pos (show (c : Int) > 0 by omega), Array.length_toList]
      split
      · rw [show (its.size : Int) - lo + c - 1 = ((its.size - lo + c - 1 : Nat) : Int) by omega]
        rfl
      · rw [show its.size - lo + c - 1 = c - 1 by omega, Nat.div_eq_of_lt (by omega)]
        rfl
    simp only []
    rw [hn]
    refine List.map_congr_left fun k _ => ?_
    have : (c : Int) * (k : Int) = ((c * k : Nat) : Int) := by rw [Int.natCast_mul]
    rw [this]
    omega
  show (((sliceRange (lo : Int) (its.size : Int) (c : Int)).filterMap (its[·]?)).toArray).toList = _
  rw [hr]
  simp only [Array.getElem?_toList]
def tSkip (K : PySem.W.Frag) (te tl ts : TE) : TE := fun σ H Q => te σ H fun v H1 => tPart tl σ H1 fun l H2 => tPart ts σ H2 fun o H3 => ∃ lo c : Nat, l = some (lo : Int) ∧ o = some (c : Int) ∧ 1 ≤ c ∧
  ∃ (a : Addr) (xs : List V), v = .ref a ∧ SqL K H3 a xs ∧ lo ≤ xs.length ∧ xs.length ≤ 100000 ∧ ∀ p, H3 p = none → Q (.ref p) (upd H3 p (.lst (pks xs lo c)))
theorem pks_len {α : Type} (xs : List α) (lo c : Nat) (hc : 1 ≤ c) : (pks xs lo c).length ≤ xs.length := by
  unfold pks
  refine Nat.le_trans (List.length_filterMap_le _ _) ?_
  rw [List.length_map, List.length_range]
  by_cases h : xs.length - lo = 0
  · rw [h, Nat.div_eq_of_lt (by omega)]
    exact Nat.zero_le _
  · have : (xs.length - lo + c - 1) / c ≤ xs.length - lo := by
      rw [Nat.div_le_iff_le_mul (by omega)]
      have h1 : (xs.length - lo - 1) * 1 ≤ (xs.length - lo - 1) * c := Nat.mul_le_mul_left _ hc
      have h2 : (xs.length - lo) * c = (xs.length - lo - 1) * c + c := by
        rw [← Nat.succ_mul]
        congr 1
        omega
      omega
    omega
theorem pe_skip {X : Cx} {e el es : Expr} {te tl ts : TE} {p3 pos : Pos} (he : PE X e te) (hl : PE X el tl) (hs : PE X es ts) : PE X (.Subscript e (.Slice (some el) none (some es) p3) pos) (tSkip X.K te tl ts) := by
  constructor
  intro pins s σ H Q I h
  refine Subscript_ (thn (he.run pins s σ H _ I h) fun v s1 z1 => ?_)
  obtain ⟨xv, H1, I1, r1, q1⟩ := z1
  refine wpAny_Slice (thn ((po_some hl).run pins s1 σ H1 _ I1 q1) fun vl s2 z2 => ?_)
  obtain ⟨l, G2, I2, pl, q2⟩ := z2
  refine thn (po_none.run pins s2 σ G2 (fun o G => o = none ∧ G = G2) I2 ⟨rfl, rfl⟩) fun vu s3 z3 => ?_
  obtain ⟨u, G3, I3, pu, rfl, rfl⟩ := z3
  refine thn ((po_some hs).run pins s3 σ G3 _ I3 q2) fun vs s4 z4 => ?_
  obtain ⟨o, G4, I4, pst, lo, c, rfl, rfl, hc, a, xs, rfl, hx, hlo, hsz, q⟩ := z4
  cases r1
  have I5 : Inv X pins σ G4 { s4 with heap := s4.heap.push { cls := .type "slice", data := .fields #[vl, vu, vs] } } := I4.kept (t' := s4.toks) fun b ob z => Heap.get?_push_of_some _ z
  obtain ⟨its, rel, plain, room⟩ := I5.list hx
  have many : its.length = xs.length := rel.length.symm
  show wpAny (model X.prog X.w) X.A (subscriptTail e (.Slice (some el) none (some es) p3) (.ref a) (.ref s4.heap.objs.size)) (EP X pins σ Q) X.xe { s4 with heap := s4.heap.push { cls := .type "slice", data := .fields #[vl, vu, vs] } }
  refine tail_any (ops := [.ref a, .ref s4.heap.objs.size]) plain.isList.typeIs (PySem.slot_list_getitem.lookup) ?_ (by with_unfolding_all rfl)
  refine wpAny_getItem_list_slice plain.isList (Heap.IsSliceOf.new _ vl vu vs) pl pu pst (by intro z; injection z with z; omega) ?_ (by rw [List.size_toArray, many]; exact size_le hsz)
  have hp := pick_k its.toArray lo c (by rw [List.size_toArray, many]; exact hlo) hc
  have hv : Vals (pks xs lo c) (slicePick its.toArray (some (lo : Int)) none (some (c : Int))).toList := by
    rw [hp]
    unfold pks
    rw [List.toList_toArray, ← many]
    exact vals_at rel _
  generalize slicePick its.toArray (some (lo : Int)) none (some (c : Int)) = arr at *
  refine ⟨.ref _, _, I5.laid (t' := s4.toks) (o := .lst (pks xs lo c)) (fun b ob z => Heap.get?_push_of_some _ z) (Nat.le_refl _) ?_, rfl, q _ (I5.hok.fresh (Nat.le_refl _))⟩
  exact ⟨Nat.le_trans (pks_len xs lo c hc) (size_le hsz), arr.toList, 0, hv, by rw [Heap.get?_push_size _ rfl]⟩
/-! ## range(lo, hi, c), c at least 1 -/
theorem RgC.up {i j c : Int} (hc : 1 ≤ c) (hc' : c < 1000000) (hi : 0 ≤ i) (hi' : i < 1000000) (hj : 0 ≤ j) (hj' : j < 1000000) : RgC i j c (if i < j then ((j - i - 1) / c + 1).toNat else 0) := by
  have hs : Builtin.Range.rangeSize i j c = ((if i < j then ((j - i - 1) / c + 1).toNat else 0 : Nat) : Int) := by
    unfold Builtin.Range.rangeSize
    rw [if_pos (show c > 0 by omega)]
    split
    · have := Int.ediv_nonneg (show 0 ≤ j - i - 1 by omega) (show 0 ≤ c by omega)
      omega
    · rfl
  have hb : Builtin.Range.rangeSize i j c ≤ 1000000 := by
    rw [hs]
    split
    · have h0 := Int.ediv_nonneg (show 0 ≤ j - i - 1 by omega) (show 0 ≤ c by omega)
      have h1 := Int.ediv_le_self c (show (0 : Int) ≤ j - i - 1 by omega)
      omega
    · decide
  have hb0 : 0 ≤ Builtin.Range.rangeSize i j c := by rw [hs]; omega
  refine ⟨by omega, by omega, ?_, hs⟩
  unfold Builtin.Range.small
  generalize Builtin.Range.rangeSize i j c = z at *
  simp only [Builtin.Range.rangeFitsLong, Bool.and_eq_true, Bool.or_eq_true, decide_eq_true_eq, beq_iff_eq, if_pos (show c > 0 by omega)]
  refine ⟨⟨⟨⟨?_, ?_⟩, ?_⟩, ?_⟩, .inr ?_⟩ <;> omega
theorem RgC.blocks {n q : Nat} (hn : 1 ≤ n) (hq : 1 ≤ q) (hb : n * q < 1000000) : RgC (n : Int) ((n * q : Nat) : Int) (n : Int) (q - 1) := by
  have h1 : n * 1 ≤ n * q := Nat.mul_le_mul_left _ hq
  have h := RgC.up (i := (n : Int)) (j := ((n * q : Nat) : Int)) (c := (n : Int)) (by omega) (by omega) (by omega) (by omega) (by omega) (by omega)
  have e : (if (n : Int) < ((n * q : Nat) : Int) then (((((n * q : Nat) : Int) - n - 1) / n + 1).toNat) else 0) = q - 1 := by
    by_cases h2 : q = 1
    · rw [h2, if_neg (by omega)]
    · have h3 : n * q = n * (q - 2) + n + n := by
        rw [show q = q - 2 + 1 + 1 by omega, Nat.mul_succ, Nat.mul_succ]
        rfl
      rw [if_pos (by omega)]
      have h4 : (((n * q : Nat) : Int) - n - 1) / n = ((q - 2 : Nat) : Int) := by
        rw [show ((n * q : Nat) : Int) - n - 1 = ((n : Int) - 1) + n * ((q - 2 : Nat) : Int) by rw [h3]; omega, Int.add_mul_ediv_left _ _ (by omega), Int.ediv_eq_zero_of_lt (by omega) (by omega), Int.zero_add]
      rw [h4]
      omega
  rw [e] at h
  exact h
/-! ## inner numbers -/
def blk (ws : List Int) (n c : Nat) : List Int := (ws.drop (c * n)).take (n - 1)
def repB (ws : List Int) (n : Nat) : Bool := (List.range ((ws.length + 1) / n)).all fun c => decide (blk ws n c = blk ws n 0)
def innB (ws : List Int) (n : Int) : Bool := decide (1 ≤ n) && decide (((ws.length : Int) + 1) % n = 0) && repB ws n.toNat
def innL (ws : List Int) : List Int := ((List.range (ws.length + 1)).map fun i => ((i : Nat) : Int) + 1).filter (innB ws)
theorem repB_of {ws : List Int} {n : Nat} (h : ∀ c, c < (ws.length + 1) / n → blk ws n c = blk ws n 0) : repB ws n = true := by
  unfold repB
  rw [List.all_eq_true]
  intro c hc
  exact decide_eq_true (h c (List.mem_range.mp hc))
theorem repB_not {ws : List Int} {n c : Nat} (hc : c < (ws.length + 1) / n) (h : blk ws n c ≠ blk ws n 0) : repB ws n = false := by
  unfold repB
  rw [List.all_eq_false]
  exact ⟨c, List.mem_range.mpr hc, by rw [decide_eq_false h]; decide⟩
theorem blk_map (ws : List Int) (n c : Nat) : ((ws.map V.int).drop (c * n)).take (n - 1) = (blk ws n c).map V.int := by
  unfold blk
  rw [List.map_take, List.map_drop]
/-- the definition by places -/
def Per (ws : List Int) (n : Nat) : Prop := 1 ≤ n ∧ n ∣ ws.length + 1 ∧ ∀ c r, r + 1 < n → c * n + r < ws.length → ws[c * n + r]? = ws[r]?
theorem blk_get {ws : List Int} {n c r : Nat} (h : r + 1 < n) : (blk ws n c)[r]? = ws[c * n + r]? := by
  unfold blk
  rw [List.getElem?_take_of_lt (by omega), List.getElem?_drop]
theorem per_iff {ws : List Int} {n : Nat} : innB ws (n : Int) = true ↔ Per ws n := by
  unfold innB Per
  rw [Bool.and_eq_true, Bool.and_eq_true, decide_eq_true_eq, decide_eq_true_eq, Int.toNat_natCast]
  have hd : ((ws.length : Int) + 1) % (n : Int) = 0 ↔ n ∣ ws.length + 1 := by
    rw [← Int.natCast_dvd_natCast, ← Int.dvd_iff_emod_eq_zero]
    rfl
  rw [hd]
  constructor
  · rintro ⟨⟨h1, h2⟩, h3⟩
    refine ⟨by omega, h2, fun c r hr hl => ?_⟩
    unfold repB at h3
    rw [List.all_eq_true] at h3
    have hc : c < (ws.length + 1) / n := by
      rw [Nat.lt_div_iff_mul_lt' h2]
      rw [Nat.mul_comm]
      omega
    have := of_decide_eq_true (h3 c (List.mem_range.mpr hc))
    rw [← blk_get hr, this, blk_get hr, Nat.zero_mul, Nat.zero_add]
  · rintro ⟨h1, h2, h3⟩
    refine ⟨⟨by omega, h2⟩, repB_of fun c hc => ?_⟩
    obtain ⟨q, hq⟩ := h2
    have hc' : c < q := by
      rw [hq, Nat.mul_div_cancel_left _ (by omega)] at hc
      exact hc
    have hb : c * n + n ≤ ws.length + 1 := by
      rw [hq, Nat.mul_comm n q, ← Nat.succ_mul]
      exact Nat.mul_le_mul_right _ hc'
    apply List.ext_getElem?
    intro r
    by_cases hr : r + 1 < n
    · rw [blk_get hr, blk_get hr, Nat.zero_mul, Nat.zero_add]
      exact h3 c r hr (by omega)
    · rw [List.getElem?_eq_none (by unfold blk; rw [List.length_take]; omega), List.getElem?_eq_none (by unfold blk; rw [List.length_take]; omega)]
/-! ## how many different ints -/
def fM (ns : List Int) : List Int := firstMet (fun i => ns.getD i 0) ns.length
theorem fM_len (ns : List Int) : (fM ns).length ≤ ns.length := firstMet_length_le _ _
theorem fM_same (f : Nat → Int) (w : Int) : ∀ n, (∀ i, i < n + 1 → f i = w) → firstMet f (n + 1) = [w]
  | 0, h => by
    rw [firstMet_succ, show f 0 = w from h 0 (by omega)]
    rfl
  | n + 1, h => by
    rw [firstMet_succ, fM_same f w n fun i hi => h i (by omega), h (n + 1) (by omega)]
    unfold step_dedup
    simp
theorem fM_one {ns : List Int} {w : Int} (h0 : ns ≠ []) (h : ∀ x ∈ ns, x = w) : fM ns = [w] := by
  unfold fM
  obtain ⟨n, hn⟩ : ∃ n, ns.length = n + 1 := ⟨ns.length - 1, by have := List.length_pos_iff.mpr h0; omega⟩
  rw [hn]
  refine fM_same _ w n fun i hi => ?_
  have hi' : i < ns.length := by omega
  rw [List.getD_eq_getElem?_getD, List.getElem?_eq_getElem hi']
  exact h _ (List.getElem_mem hi')
theorem fM_two {ns : List Int} {x y : Int} (hx : x ∈ ns) (hy : y ∈ ns) (h : x ≠ y) : 1 < (fM ns).length := by
  have mem : ∀ z, z ∈ ns → z ∈ fM ns := fun z hz => by
    have h1 : (fM ns).any (· == z) = true := by
      unfold fM
      rw [firstMet_any, List.any_eq_true]
      obtain ⟨i, hi, e⟩ := List.getElem_of_mem hz
      refine ⟨z, List.mem_map.mpr ⟨i, List.mem_range.mpr hi, ?_⟩, by simp⟩
      show ns.getD i 0 = z
      rw [List.getD_eq_getElem?_getD, List.getElem?_eq_getElem hi]
      exact e
    obtain ⟨u, hu, e⟩ := List.any_eq_true.mp h1
    rw [← eq_of_beq e]
    exact hu
  have m1 := mem x hx
  have m2 := mem y hy
  match e : fM ns with
  | [] => rw [e] at m1; cases m1
  | [u] =>
    rw [e] at m1 m2
    exact absurd ((List.mem_singleton.mp m1).trans (List.mem_singleton.mp m2).symm) h
  | u :: v :: r => simp only [List.length_cons]; omega
def tLenSetA (K : PySem.W.Frag) (ta : TE) : TE := fun σ H Q => ta σ H fun x H1 => ∃ (l : Addr) (ns : List Int), x = .ref l ∧ SqL K H1 l (ns.map V.int) ∧ ns.length ≤ 4000 ∧ Q (.int ((fM ns).length : Nat)) H1
theorem pe_lenSetA {X : Cx} {K : PySem.W.Frag} (hK : X.K = K) {a : Expr} {ta : TE} {p p2 q pos : Pos} (hg : Gl X "len") (hm : X.mg "len" = none) (hg2 : Gl X "set") (hm2 : X.mg "set" = none) (ha : PE X a ta) (hc : X.calm = true := by rfl)
    (na : starEach [a] X.env = (false, eval a X.env) :: starEach [] X.env := by rfl) : PE X (.Call (.Name "len" p) [.Call (.Name "set" p2) [a] [] q] [] pos) (tLenSetA K ta) := by
  subst hK
  constructor
  intro pins s σ H Q I h
  refine Call_ (ld_blt I hg hm boot_len (PyProof.Rows.callWith_builtin1 (PyProof.Rows.args_cons (Call_ (ld_blt I hg2 hm2 boot_set (PyProof.Rows.callWith_type1 (PyProof.Rows.args_cons (thn (ha.run pins s σ H _ I h) fun v s1 z => PyProof.Rows.args_nil ?_) na) na rfl))) rfl) rfl rfl))
  obtain ⟨x, H1, I1, r1, l, ns, rfl, hq, hl, q1⟩ := z
  cases r1
  obtain ⟨its, rel, pl, room⟩ := I1.list hq
  have many : its.toArray.size = ns.length := by rw [List.size_toArray, ← rel.length, List.length_map]
  refine call_set_list (I1.ok.hd hc) pl.isList (by rw [List.toList_toArray]; exact RZ.intsAre_vals rel) (by rw [many]; unfold scanBound; omega) fun h' tk hS hk => PyProof.Rows.args_nil ?_
  rw [many] at hS
  obtain ⟨o, es, ep, t, ho, hex, hd, _, _, _, hf, hn⟩ := hS
  have I2 : Inv X pins σ H1 { s1 with heap := h', toks := tk } := I1.kept fun b o e => hk b o (Heap.lt_size e) e
  have le := fM_len ns
  unfold fM at le
  exact call_len_set ho hex hd hf (by rw [hn]; omega) ⟨.int ((fM ns).length : Nat), H1, I2.tok _, ⟨_, by rw [hn]; rfl⟩, q1⟩
end Rn

set_option Elab.async false
set_option linter.all false
set_option maxRecDepth 100000
set_option maxHeartbeats 4000000
namespace Rn
open PySem PySem.Spec PyProof.Rows L2
/-! ## periods: by numbers of waits -/
/-- wait number j (from 1) -/
def wt (ws : List Int) (j : Nat) : Option Int := ws[j - 1]?
def PerC (ws : List Int) (n : Nat) : Prop := 1 ≤ n ∧ n ∣ ws.length + 1 ∧ ∀ i j, 1 ≤ i → i < ws.length + 1 → 1 ≤ j → j < ws.length + 1 → i % n = j % n → i % n ≠ 0 → wt ws i = wt ws j
theorem per_c {ws : List Int} {n : Nat} : Per ws n ↔ PerC ws n := by
  constructor
  · rintro ⟨h1, h2, h3⟩
    have key : ∀ i, 1 ≤ i → i < ws.length + 1 → i % n ≠ 0 → wt ws i = ws[i % n - 1]? := fun i i1 i2 i3 => by
      have e := Nat.div_add_mod i n
      have hm := Nat.mod_lt i (show n > 0 by omega)
      have := h3 (i / n) (i % n - 1) (by omega) (by rw [Nat.mul_comm]; omega)
      rw [← this]
      unfold wt
      congr 1
      rw [Nat.mul_comm]
      omega
    exact ⟨h1, h2, fun i j i1 i2 j1 j2 e z => by rw [key i i1 i2 z, key j j1 j2 (by rw [← e]; exact z), e]⟩
  · rintro ⟨h1, h2, h3⟩
    refine ⟨h1, h2, fun c r hr hl => ?_⟩
    have m1 : (c * n + r + 1) % n = r + 1 := by
      rw [Nat.add_assoc, Nat.mul_comm, Nat.mul_add_mod, Nat.mod_eq_of_lt (by omega)]
    have m2 : (r + 1) % n = r + 1 := Nat.mod_eq_of_lt hr
    have := h3 (c * n + r + 1) (r + 1) (by omega) (by omega) (by omega) (by
      have : r ≤ c * n + r := Nat.le_add_left _ _
      omega) (by rw [m1, m2]) (by rw [m1]; omega)
    exact this
/-- what stays under steps of a and of b stays under steps of their greatest common divisor -/
theorem gcd_step {α : Type} {g : Nat} {W : Nat → α} {C : Nat → Prop} (hC : ∀ x d, g ∣ d → C x → C (x + d)) (a b : Nat) : g ∣ a → g ∣ b → (∀ x, C x → W (x + a) = W x) → (∀ x, C x → W (x + b) = W x) → ∀ x, C x → W (x + Nat.gcd a b) = W x := by
  induction a, b using Nat.gcd.induction with
  | H0 b => intro _ _ _ hb x hx; rw [Nat.gcd_zero_left]; exact hb x hx
  | H1 a b ha ih =>
    intro ga gb h1 h2 x hx
    rw [Nat.gcd_rec]
    have gm : g ∣ b % a := (Nat.dvd_mod_iff ga).mpr gb
    have many : ∀ q y, C y → W (y + a * q) = W y := by
      intro q
      induction q with
      | zero => intro y _; rfl
      | succ q ih => intro y hy; rw [Nat.mul_succ, ← Nat.add_assoc, h1 _ (hC y _ (Nat.dvd_mul_right_of_dvd ga q) hy), ih y hy]
    refine ih gm ga (fun y hy => ?_) h1 x hx
    rw [← many (b / a) (y + b % a) (hC y _ gm hy), Nat.add_assoc, Nat.mod_add_div]
    exact h2 y hy
/-- .. and any number of steps -/
theorem steps {α : Type} {g : Nat} {W : Nat → α} {C : Nat → Prop} (hC : ∀ x d, g ∣ d → C x → C (x + d)) {d : Nat} (gd : g ∣ d) (h : ∀ x, C x → W (x + d) = W x) : ∀ k x, C x → W (x + d * k) = W x
  | 0, x, _ => rfl
  | k + 1, x, hx => by rw [Nat.mul_succ, ← Nat.add_assoc, h _ (hC x _ (Nat.dvd_mul_right_of_dvd gd k) hx), steps hC gd h k x hx]
theorem not_dvd_add {g : Nat} (x d : Nat) (h : g ∣ d) (hx : ¬ g ∣ x) : ¬ g ∣ x + d := fun z => hx ((Nat.dvd_add_iff_left h).mpr z)
/-- some number of steps of a leads from x to 1, by b -/
theorem lead {a b : Nat} (hb : 1 ≤ b) (h : Nat.gcd a b = 1) (x : Nat) : ∃ m, (x + m * a) % b = 1 % b := by
  let R : Nat → Prop := fun x => ∃ m, (x + m * a) % b = 1 % b
  have hA : ∀ x, True → R (x + a) = R x := fun x _ => propext ⟨fun ⟨m, e⟩ => ⟨m + 1, by rw [← e]; congr 1; rw [Nat.succ_mul]; omega⟩, fun ⟨m, e⟩ => ⟨m + (b - 1), by
    rw [← e]
    have : x + a + (m + (b - 1)) * a = x + m * a + b * a := by
      have e1 : b * a = (b - 1) * a + a := by rw [← Nat.succ_mul]; congr 1; omega
      rw [e1, Nat.add_mul]
      omega
    rw [this, Nat.add_mul_mod_self_left]⟩⟩
  have hB : ∀ x, True → R (x + b) = R x := fun x _ => propext ⟨fun ⟨m, e⟩ => ⟨m, by rw [← e, show x + b + m * a = x + m * a + b by omega, Nat.add_mod_right]⟩, fun ⟨m, e⟩ => ⟨m, by rw [← e, show x + b + m * a = x + m * a + b by omega, Nat.add_mod_right]⟩⟩
  have h1 := gcd_step (g := 1) (W := R) (C := fun _ => True) (fun _ _ _ _ => trivial) a b (Nat.one_dvd _) (Nat.one_dvd _) hA hB
  rw [h] at h1
  have h2 := steps (g := 1) (W := R) (C := fun _ => True) (fun _ _ _ _ => trivial) (Nat.one_dvd 1) h1
  have h3 : R 1 := ⟨0, by rw [Nat.zero_mul, Nat.add_zero]⟩
  have h4 : R 0 := by
    have := h1 0 trivial
    rw [← this]
    exact h3
  have := h2 x 0 trivial
  rw [Nat.zero_add, Nat.one_mul] at this
  show R x
  rw [this]
  exact h4
theorem wt_ring {ws : List Int} {n : Nat} (h : PerC ws n) : ∀ x, ¬ n ∣ x → wt ws ((x + n) % (ws.length + 1)) = wt ws (x % (ws.length + 1)) := fun x hx => by
  obtain ⟨h1, h2, h3⟩ := h
  have d1 : (x + n) % (ws.length + 1) % n = x % n := by rw [Nat.mod_mod_of_dvd _ h2, Nat.add_mod_right]
  have d2 : x % (ws.length + 1) % n = x % n := Nat.mod_mod_of_dvd _ h2
  have z : x % n ≠ 0 := fun e => hx (Nat.dvd_of_mod_eq_zero e)
  have nz : ∀ y, y % n ≠ 0 → 1 ≤ y := fun y e => by
    cases y with
    | zero => rw [Nat.zero_mod] at e; exact absurd rfl e
    | succ y => omega
  exact h3 _ _ (nz _ (by rw [d1]; exact z)) (Nat.mod_lt _ (by omega)) (nz _ (by rw [d2]; exact z)) (Nat.mod_lt _ (by omega)) (by rw [d1, d2]) (by rw [d1]; exact z)
theorem per_gcd {ws : List Int} {a b : Nat} (ha : PerC ws a) (hb : PerC ws b) : PerC ws (Nat.gcd a b) := by
  have g1 : 1 ≤ Nat.gcd a b := Nat.gcd_pos_of_pos_left _ ha.1
  have ga := Nat.gcd_dvd_left a b
  have gb := Nat.gcd_dvd_right a b
  have step := gcd_step (g := Nat.gcd a b) (W := fun x => wt ws (x % (ws.length + 1))) (C := fun x => ¬ Nat.gcd a b ∣ x) (fun x d hd hx => not_dvd_add x d hd hx) a b ga gb
    (fun x hx => wt_ring ha x fun z => hx (Nat.dvd_trans ga z)) (fun x hx => wt_ring hb x fun z => hx (Nat.dvd_trans gb z))
  generalize Nat.gcd a b = g at *
  have many := steps (g := g) (W := fun x => wt ws (x % (ws.length + 1))) (C := fun x => ¬ g ∣ x) (fun x d hd hx => not_dvd_add x d hd hx) (Nat.dvd_refl g) step
  have base : ∀ i, 1 ≤ i → i < ws.length + 1 → i % g ≠ 0 → wt ws i = wt ws ((i % g) % (ws.length + 1)) := fun i i1 i2 i3 => by
    have m0 := Nat.mod_lt i (show g > 0 by omega)
    have := many (i / g) (i % g) (fun z => i3 (by
      have := Nat.eq_zero_of_dvd_of_lt z m0
      exact this))
    rw [Nat.mod_add_div, Nat.mod_eq_of_lt i2] at this
    exact this
  exact ⟨g1, Nat.dvd_trans ga ha.2.1, fun i j i1 i2 j1 j2 e z => by rw [base i i1 i2 z, base j j1 j2 (by rw [← e]; exact z), e]⟩
theorem per_lcm {ws : List Int} {a b : Nat} (ha : PerC ws a) (hb : PerC ws b) : PerC ws (Nat.lcm a b) := by
  have la := Nat.dvd_lcm_left a b
  have lb := Nat.dvd_lcm_right a b
  refine ⟨Nat.lcm_pos ha.1 hb.1, Nat.lcm_dvd ha.2.1 hb.2.1, fun i j i1 i2 j1 j2 e z => ?_⟩
  have ea : i % a = j % a := by rw [← Nat.mod_mod_of_dvd i la, e, Nat.mod_mod_of_dvd j la]
  have eb : i % b = j % b := by rw [← Nat.mod_mod_of_dvd i lb, e, Nat.mod_mod_of_dvd j lb]
  by_cases za : i % a = 0
  · by_cases zb : i % b = 0
    · exact absurd (Nat.mod_eq_zero_of_dvd (Nat.lcm_dvd (Nat.dvd_of_mod_eq_zero za) (Nat.dvd_of_mod_eq_zero zb))) z
    · exact hb.2.2 i j i1 i2 j1 j2 eb zb
  · exact ha.2.2 i j i1 i2 j1 j2 ea za
/-- between the greatest common divisor and the least common multiple all waits are equal -/
theorem per_between {ws : List Int} {g p q : Nat} (hp : PerC ws (g * p)) (hq : PerC ws (g * q)) (hc : Nat.gcd p q = 1) (hp1 : p ≠ 1) (hq1 : q ≠ 1) :
    ∀ k, 1 ≤ k → k < p * q → wt ws (g * k) = wt ws g := by
  have g0 : 1 ≤ g := by
    cases g with
    | zero => have := hp.1; rw [Nat.zero_mul] at this; omega
    | succ g => omega
  have p0 : 2 ≤ p := by
    have : p ≠ 0 := fun z => by have := hp.1; rw [z, Nat.mul_zero] at this; omega
    omega
  have q0 : 2 ≤ q := by
    have : q ≠ 0 := fun z => by have := hq.1; rw [z, Nat.mul_zero] at this; omega
    omega
  have bound : g * (p * q) ≤ ws.length + 1 := by
    have h1 : Nat.lcm (g * p) (g * q) ∣ ws.length + 1 := Nat.lcm_dvd hp.2.1 hq.2.1
    have h2 : Nat.lcm (g * p) (g * q) = g * (p * q) := by
      rw [Nat.lcm_mul_left]
      congr 1
      unfold Nat.lcm
      rw [hc, Nat.div_one]
    rw [h2] at h1
    exact Nat.le_of_dvd (by omega) h1
  -- steps through one of them
  have via : ∀ (a b : Nat), 2 ≤ a → 2 ≤ b → Nat.gcd a b = 1 → PerC ws (g * a) → PerC ws (g * b) → ∀ k, 1 ≤ k → g * k < ws.length + 1 → ¬ a ∣ k → wt ws (g * k) = wt ws g := fun a b a2 b2 hab ha hb k k1 k2 hk => by
    obtain ⟨m, hm⟩ := lead (a := a) (b := b) (by omega) hab k
    have hm1 : (k + m * a) % b = 1 := by rw [hm, Nat.mod_eq_of_lt (by omega)]
    have nd : ¬ g * a ∣ g * k := fun z => hk (Nat.dvd_of_mul_dvd_mul_left (by omega) z)
    have s1 := steps (g := g * a) (W := fun x => wt ws (x % (ws.length + 1))) (C := fun x => ¬ g * a ∣ x) (fun x d hd hx => not_dvd_add x d hd hx) (Nat.dvd_refl _) (wt_ring ha) m (g * k) nd
    have s1' : wt ws ((g * k + g * a * m) % (ws.length + 1)) = wt ws (g * k % (ws.length + 1)) := s1
    rw [Nat.mod_eq_of_lt k2] at s1'
    rw [← s1']
    have e : g * k + g * a * m = g + g * b * ((k + m * a) / b) := by
      have h := Nat.div_add_mod (k + m * a) b
      rw [hm1] at h
      generalize (k + m * a) / b = t at *
      have h2 : g * (k + m * a) = g * (b * t + 1) := by rw [h]
      rw [Nat.mul_add, Nat.mul_add, Nat.mul_one] at h2
      rw [show g * a * m = g * (m * a) by rw [Nat.mul_assoc, Nat.mul_comm a m], Nat.mul_assoc g b t]
      omega
    rw [e]
    have nd1 : ¬ g * b ∣ g := fun z => by
      have := Nat.le_of_dvd (by omega) z
      have h3 : g * 2 ≤ g * b := Nat.mul_le_mul_left _ b2
      omega
    have s2 := steps (g := g * b) (W := fun x => wt ws (x % (ws.length + 1))) (C := fun x => ¬ g * b ∣ x) (fun x d hd hx => not_dvd_add x d hd hx) (Nat.dvd_refl _) (wt_ring hb) ((k + m * a) / b) g nd1
    have s2' : wt ws ((g + g * b * ((k + m * a) / b)) % (ws.length + 1)) = wt ws (g % (ws.length + 1)) := s2
    rw [s2']
    have hg : g < ws.length + 1 := by
      have : g * 1 ≤ g * k := Nat.mul_le_mul_left _ k1
      omega
    rw [Nat.mod_eq_of_lt hg]
  intro k k1 k2
  have k3 : g * k < ws.length + 1 := Nat.lt_of_lt_of_le (Nat.mul_lt_mul_of_pos_left k2 (by omega)) bound
  by_cases z : p ∣ k
  · have z2 : ¬ q ∣ k := fun z2 => by
      have : Nat.lcm p q ∣ k := Nat.lcm_dvd z z2
      unfold Nat.lcm at this
      rw [hc, Nat.div_one] at this
      have := Nat.le_of_dvd (by omega) this
      omega
    exact via q p q0 p0 (by rw [Nat.gcd_comm]; exact hc) hq hp k k1 k3 z2
  · exact via p q p0 q0 hc hp hq k k1 k3 z
/-! ## the list of inner numbers -/
theorem mem_innL {ws : List Int} {x : Int} : x ∈ innL ws ↔ ∃ n : Nat, x = (n : Int) ∧ PerC ws n := by
  unfold innL
  rw [List.mem_filter, List.mem_map]
  constructor
  · rintro ⟨⟨i, hi, rfl⟩, h⟩
    exact ⟨i + 1, rfl, per_c.mp (per_iff.mp h)⟩
  · rintro ⟨n, rfl, h⟩
    have h1 := h.1
    have h2 := Nat.le_of_dvd (by omega) h.2.1
    exact ⟨⟨n - 1, List.mem_range.mpr (by omega), by omega⟩, per_iff.mpr (per_c.mpr h)⟩
theorem innL_sorted (ws : List Int) : (innL ws).Pairwise (· < ·) := by
  unfold innL
  refine List.Pairwise.filter _ ?_
  rw [List.pairwise_map]
  exact List.pairwise_lt_range.imp fun h => by omega
theorem innL_len (ws : List Int) : (innL ws).length ≤ ws.length + 1 := by
  unfold innL
  refine Nat.le_trans (List.length_filter_le _ _) ?_
  rw [List.length_map, List.length_range]
  exact Nat.le_refl _
theorem sorted_ext : ∀ {xs ys : List Int}, xs.Pairwise (· < ·) → ys.Pairwise (· < ·) → (∀ x, x ∈ xs ↔ x ∈ ys) → xs = ys
  | [], [], _, _, _ => rfl
  | [], y :: ys, _, _, h => absurd ((h y).mpr List.mem_cons_self) (List.not_mem_nil)
  | x :: xs, [], _, _, h => absurd ((h x).mp List.mem_cons_self) (List.not_mem_nil)
  | x :: xs, y :: ys, hx, hy, h => by
    obtain ⟨x1, x2⟩ := List.pairwise_cons.mp hx
    obtain ⟨y1, y2⟩ := List.pairwise_cons.mp hy
    have e : x = y := by
      rcases List.mem_cons.mp ((h x).mp List.mem_cons_self) with z | z
      · exact z
      · rcases List.mem_cons.mp ((h y).mpr List.mem_cons_self) with u | u
        · exact u.symm
        · have := y1 x z
          have := x1 y u
          omega
    subst e
    rw [sorted_ext x2 y2 fun z => ⟨fun m => ?_, fun m => ?_⟩]
    · rcases List.mem_cons.mp ((h z).mp (List.mem_cons_of_mem _ m)) with u | u
      · have := x1 z m
        omega
      · exact u
    · rcases List.mem_cons.mp ((h z).mpr (List.mem_cons_of_mem _ m)) with u | u
      · have := y1 z m
        omega
      · exact u
/-! ## the two parts of a split -/
theorem low_len {ws : List Int} {n : Nat} (h : PerC ws n) : (blk ws n 0).length = n - 1 := by
  have h1 := Nat.le_of_dvd (by omega) h.2.1
  unfold blk
  rw [Nat.zero_mul, List.drop_zero, List.length_take]
  omega
theorem low_wt {ws : List Int} {n j : Nat} (h1 : 1 ≤ j) (h2 : j < n) : wt (blk ws n 0) j = wt ws j := by
  unfold wt
  rw [blk_get (by omega), Nat.zero_mul, Nat.zero_add]
theorem at_all (ws : List Int) : ∀ is : List Nat, (∀ i ∈ is, i < ws.length) → is.filterMap (fun i => ws[i]?) = is.map fun i => ws.getD i 0
  | [], _ => rfl
  | i :: is, h => by
    have hi := h i List.mem_cons_self
    rw [List.filterMap_cons_some (List.getElem?_eq_getElem hi), List.map_cons, at_all ws is fun j hj => h j (List.mem_cons_of_mem _ hj), List.getD_eq_getElem?_getD, List.getElem?_eq_getElem hi]
    rfl
theorem high_is {ws : List Int} {n q : Nat} (hn : 1 ≤ n) (hq : 1 ≤ q) (h : ws.length + 1 = n * q) : pks ws (n - 1) n = (List.range (q - 1)).map fun k => ws.getD (n - 1 + n * k) 0 := by
  have b1 : n * 1 ≤ n * q := Nat.mul_le_mul_left _ hq
  have e : (ws.length - (n - 1) + n - 1) / n = q - 1 := by
    have h2 : n * q = n * (q - 1) + n := by
      rw [← Nat.mul_succ]
      congr 1
      omega
    rw [show ws.length - (n - 1) + n - 1 = n - 1 + n * (q - 1) by omega, Nat.add_mul_div_left _ _ (by omega), Nat.div_eq_of_lt (by omega), Nat.zero_add]
  unfold pks
  rw [e, at_all ws _ fun i hi => ?_, List.map_map]
  · rfl
  · obtain ⟨k, hk, rfl⟩ := List.mem_map.mp hi
    have hk' := List.mem_range.mp hk
    have h3 : n * (k + 2) ≤ n * q := Nat.mul_le_mul_left _ (by omega)
    rw [Nat.mul_add] at h3
    omega
theorem high_len {ws : List Int} {n q : Nat} (hn : 1 ≤ n) (hq : 1 ≤ q) (h : ws.length + 1 = n * q) : (pks ws (n - 1) n).length = q - 1 := by
  rw [high_is hn hq h, List.length_map, List.length_range]
theorem high_wt {ws : List Int} {n q j : Nat} (hn : 1 ≤ n) (hq : 1 ≤ q) (h : ws.length + 1 = n * q) (h1 : 1 ≤ j) (h2 : j < q) : wt (pks ws (n - 1) n) j = wt ws (n * j) := by
  have h3 : n * (j + 1) ≤ n * q := Nat.mul_le_mul_left _ (by omega)
  have h4 : n * j = n * (j - 1) + n := by
    rw [← Nat.mul_succ]
    congr 1
    omega
  rw [Nat.mul_add] at h3
  unfold wt
  rw [high_is hn hq h, List.getElem?_map, List.getElem?_range (by omega), show n * j - 1 = n - 1 + n * (j - 1) by omega]
  show some (ws.getD (n - 1 + n * (j - 1)) 0) = _
  rw [List.getD_eq_getElem?_getD, List.getElem?_eq_getElem (by omega)]
  rfl
theorem per_low {ws : List Int} {n m : Nat} (h : PerC ws n) : PerC (blk ws n 0) m ↔ PerC ws m ∧ m ∣ n := by
  have hl := low_len h
  have h1 := h.1
  have hN := Nat.le_of_dvd (by omega) h.2.1
  have e1 : (blk ws n 0).length + 1 = n := by omega
  constructor
  · rintro ⟨m1, m2, m3⟩
    rw [e1] at m2 m3
    refine ⟨⟨m1, Nat.dvd_trans m2 h.2.1, fun i j i1 i2 j1 j2 e z => ?_⟩, m2⟩
    have red : ∀ i, 1 ≤ i → i < ws.length + 1 → i % m ≠ 0 → 1 ≤ i % n ∧ i % n < n ∧ wt ws i = wt (blk ws n 0) (i % n) ∧ i % n % m = i % m := fun i i1 i2 z => by
      have q1 : i % n % m = i % m := Nat.mod_mod_of_dvd _ m2
      have q2 := Nat.mod_lt i (show n > 0 by omega)
      have q3 : i % n ≠ 0 := fun y => by rw [y, Nat.zero_mod] at q1; exact z q1.symm
      refine ⟨by omega, q2, ?_, q1⟩
      rw [low_wt (by omega) q2]
      exact h.2.2 i (i % n) i1 i2 (by omega) (by omega) (Nat.mod_mod _ _).symm q3
    obtain ⟨a1, a2, a3, a4⟩ := red i i1 i2 z
    obtain ⟨b1, b2, b3, b4⟩ := red j j1 j2 (by rw [← e]; exact z)
    rw [a3, b3]
    exact m3 _ _ a1 a2 b1 b2 (by rw [a4, b4, e]) (by rw [a4]; exact z)
  · rintro ⟨⟨m1, m2, m3⟩, m4⟩
    refine ⟨m1, by rw [e1]; exact m4, ?_⟩
    rw [e1]
    intro i j i1 i2 j1 j2 e z
    rw [low_wt i1 i2, low_wt j1 j2]
    exact m3 i j i1 (by omega) j1 (by omega) e z
theorem per_high {ws : List Int} {n m : Nat} (h : PerC ws n) (hm : 1 ≤ m) : PerC (pks ws (n - 1) n) m ↔ PerC ws (n * m) := by
  have h1 := h.1
  obtain ⟨q, hq⟩ := h.2.1
  have q1 : 1 ≤ q := by
    cases q with
    | zero => rw [Nat.mul_zero] at hq; omega
    | succ q => omega
  have e1 : (pks ws (n - 1) n).length + 1 = q := by rw [high_len h1 q1 hq]; omega
  have lt : ∀ j, j < q → n * j < ws.length + 1 := fun j hj => by rw [hq]; exact Nat.mul_lt_mul_of_pos_left hj (by omega)
  have pos : ∀ j, 1 ≤ j → 1 ≤ n * j := fun j hj => Nat.mul_pos (by omega) (by omega)
  constructor
  · rintro ⟨m1, m2, m3⟩
    rw [e1] at m2 m3
    refine ⟨pos m m1, by rw [hq]; exact Nat.mul_dvd_mul_left n m2, fun i j i1 i2 j1 j2 e z => ?_⟩
    have en : i % n = j % n := by rw [← Nat.mod_mod_of_dvd i (Nat.dvd_mul_right n m), e, Nat.mod_mod_of_dvd j (Nat.dvd_mul_right n m)]
    by_cases zn : i % n = 0
    · obtain ⟨i', rfl⟩ := Nat.dvd_of_mod_eq_zero zn
      obtain ⟨j', rfl⟩ := Nat.dvd_of_mod_eq_zero (show j % n = 0 by rw [← en]; exact zn)
      have i1' : 1 ≤ i' := by
        cases i' with
        | zero => rw [Nat.mul_zero] at i1; omega
        | succ i => omega
      have j1' : 1 ≤ j' := by
        cases j' with
        | zero => rw [Nat.mul_zero] at j1; omega
        | succ i => omega
      rw [hq] at i2 j2
      have i2' := Nat.lt_of_mul_lt_mul_left i2
      have j2' := Nat.lt_of_mul_lt_mul_left j2
      rw [Nat.mul_mod_mul_left, Nat.mul_mod_mul_left] at e
      rw [Nat.mul_mod_mul_left] at z
      rw [← high_wt h1 q1 hq i1' i2', ← high_wt h1 q1 hq j1' j2']
      exact m3 i' j' i1' i2' j1' j2' (Nat.eq_of_mul_eq_mul_left (by omega) e) (fun y => z (by rw [y, Nat.mul_zero]))
    · exact h.2.2 i j i1 i2 j1 j2 en zn
  · rintro ⟨m1, m2, m3⟩
    refine ⟨hm, ?_, ?_⟩
    · rw [e1]
      rw [hq] at m2
      exact Nat.dvd_of_mul_dvd_mul_left (by omega) m2
    · rw [e1]
      intro i j i1 i2 j1 j2 e z
      rw [high_wt h1 q1 hq i1 i2, high_wt h1 q1 hq j1 j2]
      refine m3 _ _ (pos i i1) (lt i i2) (pos j j1) (lt j j2) ?_ ?_
      · rw [Nat.mul_mod_mul_left, Nat.mul_mod_mul_left, e]
      · rw [Nat.mul_mod_mul_left]
        intro y
        rcases Nat.mul_eq_zero.mp y with y | y
        · omega
        · exact z y
/-! ## ints in lists -/
theorem flat_ints (ns : List Int) : (ns.map V.int).all flatV = true := by
  rw [List.all_eq_true]
  intro v hv
  obtain ⟨n, _, rfl⟩ := List.mem_map.mp hv
  rfl
theorem inV_ints (x : Int) (ns : List Int) : inV (.int x) (ns.map V.int) = decide (x ∈ ns) := by
  unfold inV
  rw [List.any_map, Bool.eq_iff_iff, List.any_eq_true, decide_eq_true_eq]
  constructor
  · rintro ⟨n, hn, e⟩
    have e' : (n == x) = true := e
    rw [← eq_of_beq e']
    exact hn
  · intro h
    exact ⟨x, h, by show (x == x) = true; exact BEq.rfl⟩
theorem pair_parts {a b : Nat} (ha : 1 ≤ a) : ∃ p q, a = Nat.gcd a b * p ∧ b = Nat.gcd a b * q ∧ Nat.gcd p q = 1 ∧ Nat.lcm a b = Nat.gcd a b * (p * q) := by
  have g0 : 0 < Nat.gcd a b := Nat.gcd_pos_of_pos_left _ ha
  obtain ⟨p, hp⟩ := Nat.gcd_dvd_left a b
  obtain ⟨q, hq⟩ := Nat.gcd_dvd_right a b
  have hg : Nat.gcd a b * Nat.gcd p q = Nat.gcd a b * 1 := by
    rw [← Nat.gcd_mul_left, ← hp, ← hq, Nat.mul_one]
  have h1 := Nat.eq_of_mul_eq_mul_left g0 hg
  refine ⟨p, q, hp, hq, h1, ?_⟩
  have : Nat.lcm (Nat.gcd a b * p) (Nat.gcd a b * q) = Nat.gcd a b * (p * q) := by
    rw [Nat.lcm_mul_left]
    congr 1
    unfold Nat.lcm
    rw [h1, Nat.div_one]
  rw [← hp, ← hq] at this
  exact this
end Rn

set_option Elab.async false
set_option linter.all false
set_option maxRecDepth 100000
set_option maxHeartbeats 4000000
namespace Rn
open PySem PySem.Spec PyProof.Rows L2
/-! ## the classes of waits by the remainders of their numbers, kept in a dict of lists -/
def cls (ws : List Int) (n r i : Nat) : List Int := ((List.range i).filter fun j => decide ((j + 1) % n = r)).map fun j => ws.getD j 0
theorem cls_succ (ws : List Int) (n r i : Nat) : cls ws n r (i + 1) = if (i + 1) % n = r then cls ws n r i ++ [ws.getD i 0] else cls ws n r i := by
  unfold cls
  rw [List.range_succ, List.filter_append, List.map_append, List.filter_cons, List.filter_nil]
  by_cases h : (i + 1) % n = r
  · rw [if_pos h, if_pos (decide_eq_true h)]
    rfl
  · rw [if_neg h, if_neg (by rw [decide_eq_false h]; exact Bool.false_ne_true), List.map_nil, List.append_nil]
theorem cls_len (ws : List Int) (n r i : Nat) : (cls ws n r i).length ≤ i := by
  unfold cls
  rw [List.length_map]
  refine Nat.le_trans (List.length_filter_le _ _) ?_
  rw [List.length_range]
  exact Nat.le_refl _
theorem mem_cls {ws : List Int} {n r i : Nat} {x : Int} (h : x ∈ cls ws n r i) : ∃ j, j < i ∧ (j + 1) % n = r ∧ ws.getD j 0 = x := by
  unfold cls at h
  obtain ⟨j, hj, e⟩ := List.mem_map.mp h
  obtain ⟨h1, h2⟩ := List.mem_filter.mp hj
  exact ⟨j, List.mem_range.mp h1, of_decide_eq_true h2, e⟩
theorem in_cls {ws : List Int} {n r i j : Nat} (h1 : j < i) (h2 : (j + 1) % n = r) : ws.getD j 0 ∈ cls ws n r i := by
  unfold cls
  exact List.mem_map.mpr ⟨j, List.mem_filter.mpr ⟨List.mem_range.mpr h1, decide_eq_true h2⟩, rfl⟩
theorem getD_wt {ws : List Int} {j : Nat} (h : j < ws.length) : wt ws (j + 1) = some (ws.getD j 0) := by
  unfold wt
  rw [Nat.add_sub_cancel, List.getD_eq_getElem?_getD, List.getElem?_eq_getElem h]
  rfl
theorem per_cls {ws : List Int} {n : Nat} (h1 : 1 ≤ n) (h2 : n ∣ ws.length + 1) : PerC ws n ↔ ∀ r : Nat, r ≠ 0 → (fM (cls ws n r ws.length)).length ≤ 1 := by
  constructor
  · rintro ⟨_, _, h3⟩ r hr
    cases e : cls ws n r ws.length with
    | nil => exact Nat.zero_le _
    | cons x0 rest =>
      have m0 : x0 ∈ cls ws n r ws.length := by rw [e]; exact List.mem_cons_self
      obtain ⟨j0, a1, a2, a3⟩ := mem_cls m0
      rw [← e, fM_one (w := x0) (by rw [e]; intro z; cases z) fun x hx => ?_]
      · exact Nat.le_refl _
      obtain ⟨j, b1, b2, b3⟩ := mem_cls hx
      have := h3 (j + 1) (j0 + 1) (by omega) (by omega) (by omega) (by omega) (by rw [a2, b2]) (by rw [b2]; exact hr)
      rw [getD_wt b1, getD_wt a1, a3, b3] at this
      exact Option.some.inj this
  · intro h
    refine ⟨h1, h2, fun i j i1 i2 j1 j2 e z => ?_⟩
    obtain ⟨i', rfl⟩ : ∃ i', i = i' + 1 := ⟨i - 1, by omega⟩
    obtain ⟨j', rfl⟩ : ∃ j', j = j' + 1 := ⟨j - 1, by omega⟩
    rw [getD_wt (by omega), getD_wt (by omega)]
    by_cases q : ws.getD i' 0 = ws.getD j' 0
    · rw [q]
    · have m1 := in_cls (ws := ws) (n := n) (r := (i' + 1) % n) (i := ws.length) (j := i') (by omega) rfl
      have m2 := in_cls (ws := ws) (n := n) (r := (i' + 1) % n) (i := ws.length) (j := j') (by omega) e.symm
      have := fM_two m1 m2 q
      have := h _ z
      omega
theorem mem_putK {kvs : List (Key × V)} {k k' : Key} {v v' : V} (h : (k', v') ∈ putK kvs k v) : (k' = k ∧ v' = v) ∨ ((k', v') ∈ kvs ∧ k' ≠ k) := by
  unfold putK at h
  by_cases e : (kvs.any fun kv => decide (kv.1 = k)) = true
  · rw [if_pos e] at h
    obtain ⟨kv, h1, h2⟩ := List.mem_map.mp h
    by_cases z : kv.1 = k
    · rw [if_pos z] at h2
      cases h2
      exact .inl ⟨z, rfl⟩
    · rw [if_neg z] at h2
      subst h2
      exact .inr ⟨h1, z⟩
  · rw [if_neg e] at h
    rcases List.mem_append.mp h with h1 | h1
    · refine .inr ⟨h1, fun z => e ?_⟩
      rw [List.any_eq_true]
      exact ⟨_, h1, decide_eq_true z⟩
    · have := List.mem_singleton.mp h1
      cases this
      exact .inl ⟨rfl, rfl⟩
theorem valV_mem {kvs : List (Key × V)} {k : Key} {v : V} (h : valV kvs k = some v) : (k, v) ∈ kvs := by
  unfold valV at h
  obtain ⟨kv, h1, h2⟩ := Option.map_eq_some_iff.mp h
  have h3 := List.find?_some h1
  have h4 := List.mem_of_find?_eq_some h1
  have h5 : kv.1 = k := of_decide_eq_true h3
  have : kv = (k, v) := by
    cases kv
    cases h5
    cases h2
    rfl
  rw [← this]
  exact h4
/-- the dict at d holds the classes of the first i waits, in lists of their own -/
structure Cls (ws : List Int) (n i : Nat) (H : Hp) (d : Addr) (kvs : List (Key × V)) : Prop where
  at_ : H d = some (.dK kvs)
  len : kvs.length ≤ i
  each : ∀ k v, (k, v) ∈ kvs → ∃ (r : Nat) (p : Addr), k = Sum.inl (r : Int) ∧ r ≠ 0 ∧ v = .ref p ∧ p ≠ d ∧ H p = some (.lst ((cls ws n r i).map V.int))
  full : ∀ r : Nat, r ≠ 0 → cls ws n r i ≠ [] → ∃ v, valV kvs (Sum.inl (r : Int)) = some v
theorem Cls.same {ws : List Int} {n i : Nat} {H H' : Hp} {d : Addr} {kvs : List (Key × V)} (h : Cls ws n i H d kvs) (e : Same H H') : Cls ws n i H' d kvs :=
  ⟨e _ _ h.at_, h.len, fun k v m => by obtain ⟨r, p, a1, a2, a3, a4, a5⟩ := h.each k v m; exact ⟨r, p, a1, a2, a3, a4, e _ _ a5⟩, h.full⟩
theorem Cls.skip {ws : List Int} {n i : Nat} {H : Hp} {d : Addr} {kvs : List (Key × V)} (h : Cls ws n i H d kvs) (z : (i + 1) % n = 0) : Cls ws n (i + 1) H d kvs := by
  have e : ∀ r, r ≠ 0 → cls ws n r (i + 1) = cls ws n r i := fun r hr => by rw [cls_succ, if_neg (by omega)]
  refine ⟨h.at_, Nat.le_succ_of_le h.len, fun k v m => ?_, fun r hr hc => h.full r hr (by rw [← e r hr]; exact hc)⟩
  obtain ⟨r, p, a1, a2, a3, a4, a5⟩ := h.each k v m
  exact ⟨r, p, a1, a2, a3, a4, by rw [e r a2]; exact a5⟩
theorem Cls.put {ws : List Int} {n i r : Nat} {H : Hp} {d q : Addr} {kvs : List (Key × V)} (h : Cls ws n i H d kvs) (hr : (i + 1) % n = r) (hr0 : r ≠ 0) (hq : H q = some (.lst ((cls ws n r (i + 1)).map V.int))) (ne : q ≠ d) :
    Cls ws n (i + 1) (upd H d (.dK (putK kvs (Sum.inl (r : Int)) (.ref q)))) d (putK kvs (Sum.inl (r : Int)) (.ref q)) := by
  have e : ∀ s, s ≠ r → cls ws n s (i + 1) = cls ws n s i := fun s hs => by rw [cls_succ, if_neg (by omega)]
  refine ⟨upd_same, Nat.le_trans (length_putK _ _ _) (Nat.succ_le_succ h.len), fun k v m => ?_, fun s hs hc => ?_⟩
  · rcases mem_putK m with ⟨rfl, rfl⟩ | ⟨m1, m2⟩
    · exact ⟨r, q, rfl, hr0, rfl, ne, by rw [upd_ne ne]; exact hq⟩
    · obtain ⟨s, p, a1, a2, a3, a4, a5⟩ := h.each k v m1
      have : s ≠ r := fun z => m2 (by rw [a1, z])
      exact ⟨s, p, a1, a2, a3, a4, by rw [upd_ne a4, e s this]; exact a5⟩
  · rw [valV_put]
    by_cases z : s = r
    · exact ⟨_, by rw [z, if_pos rfl]⟩
    · rw [if_neg (fun y => z (by injection y with y; exact Int.ofNat.inj y))]
      exact h.full s hs (by rw [← e s z]; exact hc)
/-- what stands at a remainder: its class, or nothing where the class is empty -/
theorem Cls.get {ws : List Int} {n i : Nat} {H : Hp} {d : Addr} {kvs : List (Key × V)} (h : Cls ws n i H d kvs) {r : Nat} (hr : r ≠ 0) : (valV kvs (Sum.inl (r : Int)) = none ∧ cls ws n r i = []) ∨
    ∃ p, valV kvs (Sum.inl (r : Int)) = some (.ref p) ∧ p ≠ d ∧ H p = some (.lst ((cls ws n r i).map V.int)) := by
  cases e : valV kvs (Sum.inl (r : Int)) with
  | none =>
    refine .inl ⟨rfl, ?_⟩
    by_cases z : cls ws n r i = []
    · exact z
    · obtain ⟨v, hv⟩ := h.full r hr z
      rw [e] at hv
      cases hv
  | some v =>
    obtain ⟨s, p, a1, a2, a3, a4, a5⟩ := h.each _ _ (valV_mem e)
    have : s = r := by injection a1 with a1; exact (Int.ofNat.inj a1).symm
    subst this
    exact .inr ⟨p, by rw [a3], a4, a5⟩
end Rn

set_option Elab.async false
set_option linter.all false
set_option maxRecDepth 100000
set_option maxHeartbeats 4000000
namespace Rn
open PySem PySem.Spec PyProof.Rows L2
/-! ## unsplittable policies -/
theorem per_one (ws : List Int) : Per ws 1 := ⟨Nat.le_refl _, Nat.one_dvd _, fun c r h _ => absurd h (by omega)⟩
theorem per_all (ws : List Int) : Per ws (ws.length + 1) := ⟨by omega, Nat.dvd_refl _, fun c r h1 h2 => by
  have : c = 0 := by
    rcases Nat.eq_zero_or_pos c with z | z
    · exact z
    · have : 1 * (ws.length + 1) ≤ c * (ws.length + 1) := Nat.mul_le_mul_right _ z
      omega
  rw [this, Nat.zero_mul, Nat.zero_add]⟩
theorem per_const {m n : Nat} {w : Int} : Per (List.replicate m w) n ↔ 1 ≤ n ∧ n ∣ m + 1 := by
  constructor
  · rintro ⟨h1, h2, _⟩
    rw [List.length_replicate] at h2
    exact ⟨h1, h2⟩
  · rintro ⟨h1, h2⟩
    refine ⟨h1, by rw [List.length_replicate]; exact h2, fun c r h3 h4 => ?_⟩
    rw [List.length_replicate] at h4
    rw [List.getElem?_replicate, List.getElem?_replicate, if_pos h4, if_pos (by
      have : r ≤ c * n + r := Nat.le_add_left _ _
      omega)]
theorem per_nest (xs ys : List Int) : Per (nestL xs ys) (xs.length + 1) := by
  have hl := nestL_len xs ys
  refine ⟨by omega, ⟨ys.length + 1, hl⟩, fun c r h1 h2 => ?_⟩
  have h3 : r ≤ c * (xs.length + 1) + r := Nat.le_add_left _ _
  rw [nestL_get _ _ _ h2, nestL_get _ _ r (by omega)]
  have m1 : (c * (xs.length + 1) + r + 1) % (xs.length + 1) = r + 1 := by
    rw [Nat.add_assoc, Nat.mul_comm, Nat.mul_add_mod, Nat.mod_eq_of_lt (by omega)]
  have m2 : (r + 1) % (xs.length + 1) = r + 1 := Nat.mod_eq_of_lt (by omega)
  rw [m1, m2, if_neg (by omega), if_neg (by omega)]
theorem inn_false {ws : List Int} {j : Nat} (h : ¬ Per ws j) : innB ws (j : Int) = false := by
  cases e : innB ws (j : Int) with
  | false => rfl
  | true => exact absurd (per_iff.mp e) h
/-- not trivial and nothing between 1 and all is an inner number -/
def Uns (ws : List Int) : Prop := 0 < ws.length ∧ ∀ j : Nat, 2 ≤ j → j < ws.length + 1 → innB ws (j : Int) = false
def unsB (ws : List Int) : Bool := decide (0 < ws.length) && (List.range (ws.length + 1)).all fun j => !(decide (2 ≤ j) && innB ws ((j : Nat) : Int))
theorem uns_iff {ws : List Int} : unsB ws = true ↔ Uns ws := by
  unfold unsB Uns
  rw [Bool.and_eq_true, decide_eq_true_eq, List.all_eq_true]
  constructor
  · rintro ⟨h1, h2⟩
    refine ⟨h1, fun j j1 j2 => ?_⟩
    have := h2 j (List.mem_range.mpr j2)
    rw [decide_eq_true j1, Bool.true_and] at this
    simpa using this
  · rintro ⟨h1, h2⟩
    refine ⟨h1, fun j hj => ?_⟩
    by_cases c : 2 ≤ j
    · rw [h2 j c (List.mem_range.mp hj), Bool.and_false]
      rfl
    · rw [decide_eq_false c, Bool.false_and]
      rfl
/-- the smallest inner number above 1 -/
def Sm (ws : List Int) (m : Nat) : Prop := (m = ws.length + 1 ∨ (2 ≤ m ∧ m < ws.length + 1 ∧ innB ws (m : Int) = true)) ∧ ∀ j : Nat, 2 ≤ j → j < m → innB ws (j : Int) = false
theorem sm_uns {ws : List Int} {m : Nat} (h : Sm ws m) (h0 : 0 < ws.length) : m = ws.length + 1 ↔ Uns ws := by
  constructor
  · intro e
    exact ⟨h0, fun j j1 j2 => h.2 j j1 (by omega)⟩
  · intro u
    rcases h.1 with e | ⟨h1, h2, h3⟩
    · exact e
    · rw [u.2 m h1 h2] at h3
      cases h3
theorem innL_two {ws : List Int} (h0 : 0 < ws.length) : innL ws = [1, (ws.length : Int) + 1] ↔ Uns ws := by
  constructor
  · intro e
    refine ⟨h0, fun j j1 j2 => inn_false fun hp => ?_⟩
    have hm : (j : Int) ∈ innL ws := mem_innL.mpr ⟨j, rfl, per_c.mp hp⟩
    rw [e] at hm
    simp only [List.mem_cons, List.not_mem_nil, or_false] at hm
    omega
  · intro u
    refine sorted_ext (innL_sorted ws) ?_ fun x => ?_
    · exact List.pairwise_cons.mpr ⟨fun x hx => by rw [List.mem_singleton.mp hx]; omega, List.pairwise_singleton _ _⟩
    · rw [mem_innL]
      simp only [List.mem_cons, List.not_mem_nil, or_false]
      constructor
      · rintro ⟨n, rfl, c⟩
        have n1 := c.1
        have n2 := Nat.le_of_dvd (by omega) c.2.1
        by_cases z1 : n = 1
        · exact .inl (by omega)
        · by_cases z2 : n = ws.length + 1
          · exact .inr (by omega)
          · have := u.2 n (by omega) (by omega)
            rw [per_iff.mpr (per_c.mpr c)] at this
            cases this
      · rintro (rfl | rfl)
        · exact ⟨1, rfl, per_c.mp (per_one ws)⟩
        · exact ⟨ws.length + 1, by push_cast; rfl, per_c.mp (per_all ws)⟩
theorem uns_const {m : Nat} {w : Int} : Uns (List.replicate m w) ↔ 0 < m ∧ ∀ j : Nat, 2 ≤ j → j < m + 1 → ¬ j ∣ m + 1 := by
  unfold Uns
  rw [List.length_replicate]
  constructor
  · rintro ⟨h1, h2⟩
    refine ⟨h1, fun j j1 j2 d => ?_⟩
    have := h2 j j1 j2
    rw [per_iff.mpr (per_const.mpr ⟨by omega, d⟩)] at this
    cases this
  · rintro ⟨h1, h2⟩
    exact ⟨h1, fun j j1 j2 => inn_false fun hp => h2 j j1 j2 (per_const.mp hp).2⟩
end Rn
namespace Rn
open PySem PySem.Spec PyProof.Rows L2
theorem sq_draw {K : PySem.W.Frag} {H0 H1 H' : Hp} {sa a : Addr} {c : Int} {xs : List V} (h : SqL K H0 sa xs) (f : H0 a = none) (s : Same H0 H1) (A : Rdv a c H1 H') : SqL K H' sa xs := by
  rcases h with (h | ⟨o, h⟩) | h
  · have ne : sa ≠ a := fun z => by rw [z, f] at h; cases h
    exact .inl (.inl (hid_get (A.same _ _ (hid_at (s _ _ h) ne ne))).1)
  · have ne : sa ≠ a := fun z => by rw [z, f] at h; cases h
    exact .inl (.inr ⟨o, (hid_get (A.same _ _ (hid_at (s _ _ h) ne ne))).1⟩)
  · exact .inr h
end Rn
namespace Rn
open PySem PySem.Spec PyProof.Rows L2
theorem nest_split {ws : List Int} {n : Nat} (h : PerC ws n) : nestL (blk ws n 0) (pks ws (n - 1) n) = ws := by
  obtain ⟨q, hq⟩ := h.2.1
  have n1 := h.1
  have q1 : 1 ≤ q := by
    rcases Nat.eq_zero_or_pos q with z | z
    · rw [z, Nat.mul_zero] at hq; omega
    · exact z
  have l1 := low_len h
  have l2 := high_len n1 q1 hq
  have ln := nestL_len (blk ws n 0) (pks ws (n - 1) n)
  rw [l1, l2, Nat.sub_add_cancel n1, Nat.sub_add_cancel q1, ← hq] at ln
  apply List.ext_getElem?
  intro j
  by_cases hj : j < ws.length
  · rw [nestL_get _ _ _ (by omega), l1, Nat.sub_add_cancel n1]
    have hdm := Nat.div_add_mod (j + 1) n
    by_cases c : (j + 1) % n = 0
    · rw [if_pos c]
      rw [c, Nat.add_zero] at hdm
      have k1 : 1 ≤ (j + 1) / n := by
        rcases Nat.eq_zero_or_pos ((j + 1) / n) with z | z
        · rw [z, Nat.mul_zero] at hdm; omega
        · exact z
      have k2 : (j + 1) / n < q := by
        rw [Nat.div_lt_iff_lt_mul (by omega), Nat.mul_comm, ← hq]
        omega
      have := high_wt n1 q1 hq k1 k2
      rw [hdm] at this
      exact this
    · rw [if_neg c]
      have ml := Nat.mod_lt (j + 1) (show n > 0 by omega)
      have h1 := low_wt (ws := ws) (n := n) (j := (j + 1) % n) (by omega) ml
      have h2 := h.2.2 (j + 1) ((j + 1) % n) (by omega) (by omega) (by omega) (by
        have := Nat.mod_le (j + 1) n
        omega) (by rw [Nat.mod_mod]) c
      exact h1.trans h2.symm
  · rw [List.getElem?_eq_none (by omega), List.getElem?_eq_none (by omega)]
theorem blk_mem {ws : List Int} {n c : Nat} {x : Int} (h : x ∈ blk ws n c) : x ∈ ws := List.mem_of_mem_drop (List.mem_of_mem_take h)
theorem pks_mem {ws : List Int} {lo c : Nat} {x : Int} (h : x ∈ pks ws lo c) : x ∈ ws := by
  unfold pks at h
  obtain ⟨i, _, hi⟩ := List.mem_filterMap.mp h
  exact List.mem_of_getElem? hi
end Rn

set_option Elab.async false
set_option linter.all false
set_option maxRecDepth 100000
set_option maxHeartbeats 4000000
namespace Rn
open PySem PySem.Spec PyProof.Rows L2
/-! # normal forms: one for each policy -/
def Lay.sz (L : Lay) : Nat := L.waits.length + 1
theorem per_low0 {ws : List Int} {n : Nat} (h : PerC ws n) : (blk ws n 0).length + 1 = n := by
  have := low_len h
  have := h.1
  omega
theorem nestL_inj {xs xs' : List Int} : ∀ {ys ys' : List Int}, xs.length = xs'.length → nestL xs ys = nestL xs' ys' → xs = xs' ∧ ys = ys' := by
  intro ys ys' hl h
  have key : ∀ (zs zs' : List Int), (zs.flatMap fun y => y :: xs) = (zs'.flatMap fun y => y :: xs) → zs = zs' := by
    intro zs
    induction zs with
    | nil => intro zs' h; cases zs' with
      | nil => rfl
      | cons z zs' => simp at h
    | cons z zs ih => intro zs' h; cases zs' with
      | nil => simp at h
      | cons z' zs' =>
        rw [List.flatMap_cons, List.flatMap_cons, List.cons_append, List.cons_append] at h
        injection h with h1 h2
        rw [h1, ih zs' (List.append_cancel_left h2)]
  unfold nestL at h
  obtain ⟨e1, e2⟩ := List.append_inj h hl
  subst e1
  exact ⟨rfl, key _ _ e2⟩
/-- a list of equal waits -/
def Flat1 (ns : List Int) : Prop := ∃ w, ns = List.replicate ns.length w
theorem flat1_of {ns : List Int} {w : Int} (h : ∀ x ∈ ns, x = w) : ns = List.replicate ns.length w := List.eq_replicate_iff.mpr ⟨rfl, h⟩
/-- a layer of a normal form -/
def Lay.nf : Lay → Prop
  | .con w n => 0 ≤ w ∧ 2 ≤ n
  | .pol ns => Uns ns ∧ ¬ Flat1 ns ∧ ∀ x ∈ ns, 0 ≤ x
theorem Lay.nf.ok {L : Lay} (h : L.nf) : L.ok = true := by
  cases L with
  | con w n =>
    obtain ⟨h1, h2⟩ := h
    rw [Lay.ok_con, decide_eq_true h1, decide_eq_true (show 1 ≤ n by omega)]
    rfl
  | pol ns =>
    rw [Lay.ok_pol, List.all_eq_true]
    exact fun x hx => decide_eq_true (h.2.2 x hx)
theorem Lay.nf.sz {L : Lay} (h : L.nf) : 2 ≤ L.sz := by
  cases L with
  | con w n =>
    show 2 ≤ (List.replicate (n - 1).toNat w).length + 1
    rw [List.length_replicate]
    have := h.2
    omega
  | pol ns =>
    show 2 ≤ ns.length + 1
    have := h.1.1
    omega
/-- no neighbouring constant layers with one wait -/
def Adj (ls : List Lay) : Prop := ∀ (i : Nat) (w n w' m : Int), ls[i]? = some (.con w n) → ls[i + 1]? = some (.con w' m) → w ≠ w'
def NF (ls : List Lay) : Prop := (∀ L ∈ ls, L.nf) ∧ Adj ls
theorem NF.tail {L : Lay} {ls : List Lay} (h : NF (L :: ls)) : NF ls := ⟨fun M hM => h.1 M (List.mem_cons_of_mem _ hM), fun i w n w' m a b => h.2 (i + 1) w n w' m a b⟩
theorem NF.oks {ls : List Lay} (h : NF ls) : ∀ L ∈ ls, L.ok = true := fun L hL => (h.1 L hL).ok
theorem head_per {L : Lay} {ls : List Lay} (h : ∀ M ∈ L :: ls, M.ok = true) : PerC (flatL (L :: ls)) L.sz := by
  rw [flatL_cons h]
  exact per_c.mp (per_nest _ _)
theorem head_split {L : Lay} {ls : List Lay} (h : ∀ M ∈ L :: ls, M.ok = true) : blk (flatL (L :: ls)) L.sz 0 = L.waits ∧ pks (flatL (L :: ls)) (L.sz - 1) L.sz = flatL ls := by
  have hp := head_per h
  have e := nest_split hp
  have l0 := per_low0 hp
  have e2 := flatL_cons h
  refine nestL_inj ?_ (e.trans e2)
  unfold Lay.sz at l0 ⊢
  omega
/-- an unsplittable inner part that is not constant stands in every inner part -/
theorem uns_in {ws : List Int} {a q : Nat} (ha : PerC ws a) (hu : Uns (blk ws a 0)) (hn : ¬ Flat1 (blk ws a 0)) (hq : PerC ws q) (q2 : 2 ≤ q) : a ∣ q := by
  have hg := per_gcd ha hq
  have ga := Nat.gcd_dvd_left a q
  have gq := Nat.gcd_dvd_right a q
  have la := per_low0 ha
  have a0 := hu.1
  by_cases c1 : Nat.gcd a q = a
  · exact c1 ▸ gq
  · exfalso
    have g0 : 1 ≤ Nat.gcd a q := Nat.gcd_pos_of_pos_left _ (by omega)
    have gle := Nat.le_of_dvd (by omega) ga
    by_cases c2 : Nat.gcd a q = 1
    · have hb := per_between (g := 1) (p := a) (q := q) (by rw [Nat.one_mul]; exact ha) (by rw [Nat.one_mul]; exact hq) c2 (by omega) (by omega)
      apply hn
      refine ⟨(blk ws a 0).getD 0 0, flat1_of fun x hx => ?_⟩
      obtain ⟨i, hi, e⟩ := List.getElem_of_mem hx
      have w1 := low_wt (ws := ws) (n := a) (j := i + 1) (by omega) (by omega)
      have w2 := low_wt (ws := ws) (n := a) (j := 1) (by omega) (by omega)
      have h1 := hb (i + 1) (by omega) (by
        have : a * 2 ≤ a * q := Nat.mul_le_mul_left _ q2
        omega)
      rw [Nat.one_mul] at h1
      have h2 : wt (blk ws a 0) (i + 1) = wt (blk ws a 0) 1 := by rw [w1, w2, h1]
      unfold wt at h2
      rw [Nat.add_sub_cancel, Nat.sub_self, List.getElem?_eq_getElem hi] at h2
      rw [List.getD_eq_getElem?_getD, ← h2, ← e]
      rfl
    · have h1 : PerC (blk ws a 0) (Nat.gcd a q) := (per_low ha).mpr ⟨hg, ga⟩
      have h2 := hu.2 (Nat.gcd a q) (by omega) (by omega)
      rw [per_iff.mpr (per_c.mpr h1)] at h2
      cases h2
theorem blk_prefix {ws : List Int} {a q : Nat} (h : a ≤ q) (ha : 1 ≤ a) : blk ws a 0 = (blk ws q 0).take (a - 1) := by
  unfold blk
  rw [Nat.zero_mul, Nat.zero_mul, List.take_take]
  congr 1
  omega
theorem flat1_take {xs : List Int} {k : Nat} (h : Flat1 xs) : Flat1 (xs.take k) := by
  obtain ⟨w, hw⟩ := h
  refine ⟨w, flat1_of fun x hx => ?_⟩
  have := List.mem_of_mem_take hx
  rw [hw] at this
  exact (List.mem_replicate.mp this).2
/-- where an inner part is constant, the first layer is a constant one with its wait -/
theorem head_con {ls : List Lay} (h : NF ls) {q : Nat} {w : Int} (hq : PerC (flatL ls) q) (q2 : 2 ≤ q) (hw : ∀ x ∈ blk (flatL ls) q 0, x = w) : ∃ n r, ls = .con w n :: r := by
  have lq := per_low0 hq
  cases ls with
  | nil =>
    have := Nat.le_of_dvd (by omega) hq.2.1
    have e : (flatL []).length = 0 := rfl
    omega
  | cons L r =>
    obtain ⟨e1, e2⟩ := head_split h.oks
    have hp := head_per h.oks
    have hL := h.1 L List.mem_cons_self
    cases L with
    | pol ns =>
      exfalso
      have hd := uns_in hp (by rw [e1]; exact hL.1) (by rw [e1]; exact hL.2.1) hq q2
      have hle := Nat.le_of_dvd (by omega) hd
      have e3 := blk_prefix (ws := flatL (.pol ns :: r)) hle hp.1
      apply hL.2.1
      have e4 : ns = (blk (flatL (.pol ns :: r)) q 0).take ((Lay.pol ns).sz - 1) := by rw [← e3, e1]; rfl
      rw [e4]
      exact flat1_take ⟨w, flat1_of hw⟩
    | con v n =>
      have hs := hL.sz
      have l1 := per_low0 hp
      have p1 := low_wt (ws := flatL (.con v n :: r)) (n := (Lay.con v n).sz) (j := 1) (Nat.le_refl _) (by omega)
      have p2 := low_wt (ws := flatL (.con v n :: r)) (n := q) (j := 1) (Nat.le_refl _) (by omega)
      have p3 := p1.trans p2.symm
      unfold wt at p3
      rw [e1, Nat.sub_self] at p3
      have hq0 : 0 < (blk (flatL (.con v n :: r)) q 0).length := by omega
      rw [List.getElem?_eq_getElem hq0] at p3
      have x1 := hw _ (List.getElem_mem hq0)
      rw [x1] at p3
      have x2 : (List.replicate (n - 1).toNat v)[0]? = some w := p3
      have x3 := List.mem_of_getElem? x2
      rw [(List.mem_replicate.mp x3).2]
      exact ⟨n, r, rfl⟩
/-- two first layers, both constant: one divides the other -/
theorem con_con {w n v m : Int} {ls ms : List Lay} (hl : NF (.con w n :: ls)) (hm : NF (.con v m :: ms)) (e : flatL (.con w n :: ls) = flatL (.con v m :: ms)) : (Lay.con v m).sz ∣ (Lay.con w n).sz := by
  have pa := head_per hl.oks
  have pb := head_per hm.oks
  rw [← e] at pb
  obtain ⟨a1, a2⟩ := head_split hl.oks
  obtain ⟨b1, b2⟩ := head_split hm.oks
  rw [← e] at b1 b2
  have sa := (hl.1 _ List.mem_cons_self).sz
  have sb := (hm.1 _ List.mem_cons_self).sz
  generalize hws : flatL (.con w n :: ls) = ws at *
  generalize ha : (Lay.con w n).sz = a at *
  generalize hb : (Lay.con v m).sz = b at *
  have la := per_low0 pa
  have lb := per_low0 pb
  have wa : ∀ j, 1 ≤ j → j < a → wt ws j = some w := fun j j1 j2 => by
    rw [← low_wt j1 j2]
    unfold wt
    rw [a1]
    have : j - 1 < (Lay.con w n).waits.length := by rw [a1] at la; omega
    rw [List.getElem?_eq_getElem this]
    have := List.getElem_mem this
    exact congrArg some (List.mem_replicate.mp (show _ ∈ List.replicate (n - 1).toNat w from this)).2
  have wb : ∀ j, 1 ≤ j → j < b → wt ws j = some v := fun j j1 j2 => by
    rw [← low_wt j1 j2]
    unfold wt
    rw [b1]
    have : j - 1 < (Lay.con v m).waits.length := by rw [b1] at lb; omega
    rw [List.getElem?_eq_getElem this]
    have := List.getElem_mem this
    exact congrArg some (List.mem_replicate.mp (show _ ∈ List.replicate (m - 1).toNat v from this)).2
  have ewv : w = v := Option.some.inj ((wa 1 (Nat.le_refl _) (by omega)).symm.trans (wb 1 (Nat.le_refl _) (by omega)))
  subst ewv
  have pl := per_lcm pa pb
  have dl : a ∣ Nat.lcm a b := Nat.dvd_lcm_left a b
  obtain ⟨c, hc⟩ := dl
  by_cases c1 : c = 1
  · rw [c1, Nat.mul_one] at hc
    rw [← hc]
    exact Nat.dvd_lcm_right a b
  · exfalso
    have c0 : c ≠ 0 := by
      intro z
      rw [z, Nat.mul_zero] at hc
      have := Nat.lcm_pos (show 0 < a by omega) (show 0 < b by omega)
      omega
    have ph : PerC (pks ws (a - 1) a) c := (per_high pa (by omega)).mpr (by rw [← hc]; exact pl)
    have lle := Nat.le_of_dvd (by omega) pl.2.1
    obtain ⟨q, hq⟩ := pa.2.1
    have q1 : 1 ≤ q := by
      rcases Nat.eq_zero_or_pos q with z | z
      · rw [z, Nat.mul_zero] at hq; omega
      · exact z
    have lhi := high_len pa.1 q1 hq
    have lc := per_low0 ph
    have cq := Nat.le_of_dvd (by omega) ph.2.1
    rw [lhi] at cq
    rw [a2] at ph lc
    obtain ⟨k, r, hr⟩ := head_con hl.tail (w := w) ph (by omega) fun x hx => by
      obtain ⟨i, hi, ex⟩ := List.getElem_of_mem hx
      have h1 := low_wt (ws := flatL ls) (n := c) (j := i + 1) (by omega) (by omega)
      have h2 := high_wt (ws := ws) pa.1 q1 hq (j := i + 1) (by omega) (by omega)
      rw [a2] at h2
      have h3 := h1.trans h2
      unfold wt at h3
      rw [Nat.add_sub_cancel, List.getElem?_eq_getElem hi, ex] at h3
      have hlt : a * (i + 1) < Nat.lcm a b := by
        rw [hc]
        exact Nat.mul_lt_mul_of_pos_left (by omega) (by omega)
      have nd : (a * (i + 1)) % b ≠ 0 := fun z => by
        have d1 : b ∣ a * (i + 1) := Nat.dvd_of_mod_eq_zero z
        have d2 := Nat.lcm_dvd (Nat.dvd_mul_right a (i + 1)) d1
        have pos : 0 < a * (i + 1) := Nat.mul_pos (by omega) (by omega)
        have := Nat.le_of_dvd pos d2
        omega
      have ml := Nat.mod_lt (a * (i + 1)) (show b > 0 by omega)
      have pos : 1 ≤ a * (i + 1) := Nat.mul_pos (by omega) (by omega)
      have mle := Nat.mod_le (a * (i + 1)) b
      have h4 := pb.2.2 (a * (i + 1)) ((a * (i + 1)) % b) pos (by omega) (by omega) (by omega) (by rw [Nat.mod_mod]) nd
      have h5 := wb ((a * (i + 1)) % b) (by omega) ml
      unfold wt at h4 h5
      rw [← h3, h5] at h4
      exact Option.some.inj h4
    rw [hr] at hl
    exact hl.2 0 w n w k rfl rfl rfl
theorem nf_unique : ∀ {ls ms : List Lay}, NF ls → NF ms → flatL ls = flatL ms → ls = ms := by
  have short : ∀ {L : Lay} {r : List Lay}, NF (L :: r) → 0 < (flatL (L :: r)).length := fun {L r} h => by
    have hp := head_per h.oks
    have hs := (h.1 L List.mem_cons_self).sz
    have := Nat.le_of_dvd (by omega) hp.2.1
    omega
  intro ls
  induction ls with
  | nil =>
    intro ms _ hm e
    cases ms with
    | nil => rfl
    | cons M r =>
      have := short hm
      rw [← e] at this
      exact absurd this (Nat.lt_irrefl 0)
  | cons L ls ih =>
    intro ms hl hm e
    cases ms with
    | nil =>
      have := short hl
      rw [e] at this
      exact absurd this (Nat.lt_irrefl 0)
    | cons M ms =>
      have pa := head_per hl.oks
      have pb := head_per hm.oks
      obtain ⟨a1, a2⟩ := head_split hl.oks
      obtain ⟨b1, b2⟩ := head_split hm.oks
      have nL := hl.1 L List.mem_cons_self
      have nM := hm.1 M List.mem_cons_self
      have sa := nL.sz
      have sb := nM.sz
      have fin : L.sz = M.sz → L = M → L :: ls = M :: ms := fun e1 e2 => by
        subst e2
        rw [flatL_cons hl.oks, flatL_cons hm.oks] at e
        rw [ih hl.tail hm.tail (nestL_inj rfl e).2]
      have same : L.sz = M.sz → L.waits = M.waits := fun e1 => by rw [← a1, ← b1, e, e1]
      cases L with
      | pol ns =>
        have ua := fun {q : Nat} (hq : PerC (flatL (.pol ns :: ls)) q) (q2 : 2 ≤ q) => uns_in pa (by rw [a1]; exact nL.1) (by rw [a1]; exact nL.2.1) hq q2
        cases M with
        | pol ms' =>
          have d1 := ua (by rw [e]; exact pb) sb
          have d2 := uns_in pb (by rw [b1]; exact nM.1) (by rw [b1]; exact nM.2.1) (by rw [← e]; exact pa) sa
          have es := Nat.dvd_antisymm d1 d2
          have := same es
          exact fin es (congrArg Lay.pol this)
        | con v m =>
          exfalso
          have d1 := ua (by rw [e]; exact pb) sb
          have hle := Nat.le_of_dvd (by omega) d1
          have e3 := blk_prefix (ws := flatL (.pol ns :: ls)) hle pa.1
          rw [a1, e, b1] at e3
          apply nL.2.1
          have e4 : ns = (Lay.con v m).waits.take ((Lay.pol ns).sz - 1) := e3
          rw [e4]
          exact flat1_take ⟨v, by
            show List.replicate (m - 1).toNat v = List.replicate (List.replicate (m - 1).toNat v).length v
            rw [List.length_replicate]⟩
      | con w n =>
        cases M with
        | pol ms' =>
          exfalso
          have d1 := uns_in pb (by rw [b1]; exact nM.1) (by rw [b1]; exact nM.2.1) (by rw [← e]; exact pa) sa
          have hle := Nat.le_of_dvd (by omega) d1
          have e3 := blk_prefix (ws := flatL (.pol ms' :: ms)) hle pb.1
          rw [b1, ← e, a1] at e3
          apply nM.2.1
          have e4 : ms' = (Lay.con w n).waits.take ((Lay.pol ms').sz - 1) := e3
          rw [e4]
          exact flat1_take ⟨w, by
            show List.replicate (n - 1).toNat w = List.replicate (List.replicate (n - 1).toNat w).length w
            rw [List.length_replicate]⟩
        | con v m =>
          have d1 := con_con hl hm e
          have d2 := con_con hm hl e.symm
          have es := Nat.dvd_antisymm d2 d1
          have ew := same es
          have s1 : (Lay.con w n).sz = (n - 1).toNat + 1 := by
            show (List.replicate (n - 1).toNat w).length + 1 = _
            rw [List.length_replicate]
          have s2 : (Lay.con v m).sz = (m - 1).toNat + 1 := by
            show (List.replicate (m - 1).toNat v).length + 1 = _
            rw [List.length_replicate]
          have n2 := nL.2
          have m2 := nM.2
          have enm : n = m := by omega
          subst enm
          obtain ⟨k, hk⟩ : ∃ k, (n - 1).toNat = k + 1 := ⟨(n - 1).toNat - 1, by omega⟩
          have ew' : List.replicate (n - 1).toNat w = List.replicate (n - 1).toNat v := ew
          rw [hk, List.replicate_succ, List.replicate_succ] at ew'
          injection ew' with ew1 ew2
          subst ew1
          exact fin rfl rfl
end Rn
namespace Rn
open PySem PySem.Spec PyProof.Rows L2
/-! ## the parts of a list -/
theorem sm_per {ws : List Int} {n : Nat} (h : Sm ws n) (h0 : 0 < ws.length) : 2 ≤ n ∧ PerC ws n := by
  rcases h.1 with e | ⟨h1, h2, h3⟩
  · exact ⟨by omega, by rw [e]; exact per_c.mp (per_all ws)⟩
  · exact ⟨h1, per_c.mp (per_iff.mp h3)⟩
theorem sm_uns_low {ws : List Int} {n : Nat} (h : Sm ws n) (h0 : 0 < ws.length) : Uns (blk ws n 0) := by
  obtain ⟨n2, hp⟩ := sm_per h h0
  have hl := per_low0 hp
  refine ⟨by omega, fun j j1 j2 => inn_false fun z => ?_⟩
  have h1 := ((per_low hp).mp (per_c.mp z)).1
  have := h.2 j j1 (by omega)
  rw [per_iff.mpr (per_c.mpr h1)] at this
  cases this
inductive Parts : List Int → List Lay → Prop
  | nil : Parts [] []
  | con {ws : List Int} {n : Nat} {w : Int} {ls : List Lay} (h0 : 0 < ws.length) (hm : Sm ws n) (hc : blk ws n 0 = List.replicate (n - 1) w) (t : Parts (pks ws (n - 1) n) ls) : Parts ws (.con w (n : Int) :: ls)
  | pol {ws : List Int} {n : Nat} {ls : List Lay} (h0 : 0 < ws.length) (hm : Sm ws n) (hc : ¬ Flat1 (blk ws n 0)) (t : Parts (pks ws (n - 1) n) ls) : Parts ws (.pol (blk ws n 0) :: ls)
theorem parts_ok {ws : List Int} {ls : List Lay} (h : Parts ws ls) (hn : ∀ x ∈ ws, 0 ≤ x) : (∀ L ∈ ls, L.nf) ∧ flatL ls = ws := by
  induction h with
  | nil => exact ⟨(fun _ z => nomatch z), rfl⟩
  | con h0 hm hc t ih =>
    rename_i ws n w ls
    obtain ⟨i1, i2⟩ := ih fun x hx => hn x (pks_mem hx)
    obtain ⟨n2, hp⟩ := sm_per hm h0
    have hw : w ∈ blk ws n 0 := by rw [hc]; exact List.mem_replicate.mpr ⟨by omega, rfl⟩
    have g : (Lay.con w (n : Int)).nf := ⟨hn w (blk_mem hw), by omega⟩
    have all : ∀ L ∈ Lay.con w (n : Int) :: ls, L.nf := fun L hL => by
      rcases List.mem_cons.mp hL with e | e
      · rw [e]; exact g
      · exact i1 L e
    refine ⟨all, ?_⟩
    rw [flatL_cons fun L hL => (all L hL).ok, i2]
    have e : (Lay.con w (n : Int)).waits = blk ws n 0 := by
      rw [hc]
      show List.replicate ((n : Int) - 1).toNat w = _
      congr 1
      omega
    rw [e, nest_split hp]
  | pol h0 hm hc t ih =>
    rename_i ws n ls
    obtain ⟨i1, i2⟩ := ih fun x hx => hn x (pks_mem hx)
    obtain ⟨n2, hp⟩ := sm_per hm h0
    have g : (Lay.pol (blk ws n 0)).nf := ⟨sm_uns_low hm h0, hc, fun x hx => hn x (blk_mem hx)⟩
    have all : ∀ L ∈ Lay.pol (blk ws n 0) :: ls, L.nf := fun L hL => by
      rcases List.mem_cons.mp hL with e | e
      · rw [e]; exact g
      · exact i1 L e
    refine ⟨all, ?_⟩
    rw [flatL_cons fun L hL => (all L hL).ok, i2]
    exact nest_split hp
/-! ## merging -/
def pushL (acc : List Lay) (L : Lay) : List Lay :=
  match acc.getLast?, L with
  | some (.con w n), .con v m => if w = v then acc.dropLast ++ [.con w (n * m)] else acc ++ [L]
  | _, _ => acc ++ [L]
def mergeL (ls : List Lay) : List Lay := ls.foldl pushL []
theorem flatF {ls : List Lay} (h : ∀ L ∈ ls, L.ok = true) (L : Lay) (hL : L.ok = true) : flatL (ls ++ [L]) = nestL (flatL ls) L.waits := by
  have h2 : ∀ M ∈ ls ++ [L], M.ok = true := fun M hM => by
    rcases List.mem_append.mp hM with z | z
    · exact h M z
    · rw [List.mem_singleton.mp z]; exact hL
  rw [flatL_fold h2, flatL_fold h, List.foldl_append]
  rfl
theorem nest_rep (a b : Nat) (w : Int) : nestL (List.replicate a w) (List.replicate b w) = List.replicate ((a + 1) * (b + 1) - 1) w := by
  refine List.eq_replicate_iff.mpr ⟨?_, fun x hx => ?_⟩
  · have := nestL_len (List.replicate a w) (List.replicate b w)
    rw [List.length_replicate, List.length_replicate] at this
    omega
  · rcases nestL_mem hx with z | z
    · exact (List.mem_replicate.mp z).2
    · exact (List.mem_replicate.mp z).2
theorem push_cases (acc : List Lay) (L : Lay) : (∃ A w n m, acc = A ++ [.con w n] ∧ L = .con w m ∧ pushL acc L = A ++ [.con w (n * m)]) ∨ (pushL acc L = acc ++ [L] ∧ ∀ A w n v m, acc = A ++ [.con w n] → L = .con v m → w ≠ v) := by
  unfold pushL
  rcases List.eq_nil_or_concat acc with e | ⟨A, B, e⟩
  · subst e
    exact .inr ⟨rfl, fun A w n v m z => absurd z (by simp)⟩
  · rw [List.concat_eq_append] at e
    subst e
    rw [List.getLast?_append, List.getLast?_singleton, Option.some_or]
    cases B with
    | pol ns => exact .inr ⟨rfl, fun A' w n v m z => by have := (List.append_inj' z rfl).2; cases this⟩
    | con w n =>
      cases L with
      | pol ms => exact .inr ⟨rfl, fun A' w n v m z z2 => by cases z2⟩
      | con v m =>
        by_cases c : w = v
        · subst c
          exact .inl ⟨A, w, n, m, rfl, rfl, by rw [List.dropLast_concat]; exact if_pos rfl⟩
        · refine .inr ⟨if_neg c, fun A' w' n' v' m' z z2 => ?_⟩
          have := (List.append_inj' z rfl).2
          cases this
          cases z2
          exact c
theorem push_ok {acc : List Lay} {L : Lay} (h : NF acc) (hL : L.nf) : NF (pushL acc L) ∧ flatL (pushL acc L) = nestL (flatL acc) L.waits := by
  rcases push_cases acc L with ⟨A, w, n, m, rfl, rfl, e⟩ | ⟨e, hne⟩
  · rw [e]
    have hc := h.1 (.con w n) (List.mem_append_right _ List.mem_cons_self)
    have n2 : 2 ≤ n := hc.2
    have m2 : 2 ≤ m := hL.2
    have nm : 2 * 2 ≤ n * m := Int.mul_le_mul n2 m2 (by decide) (by omega)
    have g : (Lay.con w (n * m)).nf := ⟨hc.1, by omega⟩
    have hA : ∀ M ∈ A, M.nf := fun M hM => h.1 M (List.mem_append_left _ hM)
    refine ⟨⟨fun M hM => ?_, fun i v k v' k' a b => ?_⟩, ?_⟩
    · rcases List.mem_append.mp hM with z | z
      · exact hA M z
      · rw [List.mem_singleton.mp z]; exact g
    · have hi : i + 1 < (A ++ [Lay.con w (n * m)]).length := (List.getElem?_eq_some_iff.mp b).1
      rw [List.length_append, List.length_singleton] at hi
      rw [List.getElem?_append_left (by omega)] at a
      by_cases hj : i + 1 < A.length
      · rw [List.getElem?_append_left hj] at b
        exact h.2 i v k v' k' (by rw [List.getElem?_append_left (by omega)]; exact a) (by rw [List.getElem?_append_left hj]; exact b)
      · have ej : i + 1 = A.length := by omega
        rw [List.getElem?_append_right (by omega), ej, Nat.sub_self] at b
        cases b
        exact h.2 i v k w n (by rw [List.getElem?_append_left (by omega)]; exact a) (by rw [List.getElem?_append_right (by omega), ej, Nat.sub_self]; rfl)
    · rw [flatF (fun M hM => (hA M hM).ok) _ g.ok, flatF (fun M hM => (hA M hM).ok) _ hc.ok, nestL_assoc]
      congr 1
      show List.replicate (n * m - 1).toNat w = nestL (List.replicate (n - 1).toNat w) (List.replicate (m - 1).toNat w)
      rw [nest_rep, show (n - 1).toNat + 1 = n.toNat by omega, show (m - 1).toNat + 1 = m.toNat by omega, ← Int.toNat_mul (by omega) (by omega)]
      congr 1
      omega
  · rw [e]
    refine ⟨⟨fun M hM => ?_, fun i v k v' k' a b => ?_⟩, flatF h.oks L hL.ok⟩
    · rcases List.mem_append.mp hM with z | z
      · exact h.1 M z
      · rw [List.mem_singleton.mp z]; exact hL
    · have hi : i + 1 < (acc ++ [L]).length := (List.getElem?_eq_some_iff.mp b).1
      rw [List.length_append, List.length_singleton] at hi
      rw [List.getElem?_append_left (by omega)] at a
      by_cases hj : i + 1 < acc.length
      · rw [List.getElem?_append_left hj] at b
        exact h.2 i v k v' k' a b
      · have ej : i + 1 = acc.length := by omega
        rw [List.getElem?_append_right (by omega), ej, Nat.sub_self] at b
        have b : some L = some (Lay.con v' k') := b
        have hA : acc = acc.dropLast ++ [Lay.con v k] := by
          have hne2 : acc ≠ [] := fun z => by rw [z] at ej; simp at ej
          have h1 := (List.dropLast_concat_getLast hne2).symm
          have h2 : acc.getLast hne2 = Lay.con v k := by
            have h3 : acc[acc.length - 1]? = some (acc.getLast hne2) := by rw [← List.getLast?_eq_getElem?, List.getLast?_eq_some_getLast hne2]
            rw [show acc.length - 1 = i by omega, a] at h3
            exact (Option.some.inj h3).symm
          rw [h2] at h1
          exact h1
        exact hne _ v k v' k' hA (Option.some.inj b)
theorem merge_from : ∀ (ls : List Lay) {acc : List Lay}, NF acc → (∀ L ∈ ls, L.nf) → NF (ls.foldl pushL acc) ∧ flatL (ls.foldl pushL acc) = ls.foldl (fun a L => nestL a L.waits) (flatL acc)
  | [], acc, h, _ => ⟨h, rfl⟩
  | L :: ls, acc, h, hl => by
    obtain ⟨p1, p2⟩ := push_ok h (hl L List.mem_cons_self)
    obtain ⟨q1, q2⟩ := merge_from ls p1 fun M hM => hl M (List.mem_cons_of_mem _ hM)
    exact ⟨q1, by rw [List.foldl_cons, q2, p2, List.foldl_cons]⟩
theorem merge_ok {ls : List Lay} (h : ∀ L ∈ ls, L.nf) : NF (mergeL ls) ∧ flatL (mergeL ls) = flatL ls := by
  have h0 : NF ([] : List Lay) := ⟨(fun _ z => nomatch z), fun i w n w' m a => by cases a⟩
  obtain ⟨p1, p2⟩ := merge_from ls h0 h
  refine ⟨p1, ?_⟩
  rw [flatL_fold fun L hL => (h L hL).ok]
  exact p2
/-! ## rules of the written part; comprehensions with two for -/
theorem pi_listK {X : Cx} {K : PySem.W.Frag} (h : X.K = K) {tg l : Expr} {tl : TE} (hl : PE X l tl) : PI X tg l (iList K tl) := by subst h; exact pi_list hl
/-- the inner for, over a list that stands still -/
theorem in_list {K : PySem.W.Frag} {b : Addr} {ys : List V} {g1 : TG} {tt1 : TT} {te : TE} {vs1 : List Nat} {σ2 : L2.St} {H4 : Hp} {D : Addr} {Nx : Hp → Prop} (Pw : Nat → Hp → Prop) (h0 : Pw 0 H4) (hl : ∀ j H, j ≤ ys.length → Pw j H → SqL K H b ys)
    (hs : ∀ j y H, ys[j]? = some y → Pw j H → g1 y (wipe σ2 vs1) H fun σ3 H5 => wipe σ3 vs1 = wipe σ2 vs1 ∧ tt1 σ3 H5 fun c H6 => if c = true then te σ3 H6 fun v H7 => ∃ acc, H7 D = some (.lst acc) ∧ acc.length < sizeLine ∧ Pw (j + 1) (upd H7 D (.lst (acc ++ [v]))) else Pw (j + 1) H6)
    (hd : ∀ H, Pw ys.length H → Nx H) :
    ∃ W1 : Nat → Nat → Hp → Prop, (∃ m, W1 0 m H4) ∧ ∀ j k H, W1 j k H →
      ((Itl K b).stop j H ∧ Nx H) ∨ ((Itl K b).go j H ∧ ∃ Nx1 : Hp → Prop, (∀ H', Nx1 H' → ∃ k', k' < k ∧ W1 (j + 1) k' H') ∧ ∀ x H', (Itl K b).yld j H x H' → g1 x (wipe σ2 vs1) H' fun σ3 H5 => wipe σ3 vs1 = wipe σ2 vs1 ∧ tt1 σ3 H5 fun c H6 =>
        if c = true then te σ3 H6 fun y H7 => ∃ acc, H7 D = some (.lst acc) ∧ acc.length < sizeLine ∧ Nx1 (upd H7 D (.lst (acc ++ [y]))) else Nx1 H6) := by
  refine ⟨fun i m H => m = ys.length - i ∧ i ≤ ys.length ∧ Pw i H, ⟨ys.length, by simp, Nat.zero_le _, h0⟩, ?_⟩
  rintro i m H ⟨rfl, hi, p⟩
  have q := hl i H hi p
  by_cases hlt : i < ys.length
  · refine .inr ⟨⟨ys, ys[i], q, by simp [hlt]⟩, Pw (i + 1), fun H' p' => ⟨ys.length - (i + 1), by omega, rfl, hlt, p'⟩, fun x H' y => ?_⟩
    obtain ⟨e, y⟩ := y
    subst e
    exact hs i x _ (y ys q) p
  · have e : i = ys.length := by omega
    subst e
    exact .inl ⟨⟨ys, q, Nat.le_refl _⟩, hd H p⟩
/-- the outer for -/
theorem out_list {K : PySem.W.Frag} {a : Addr} {xs : List V} {vs : List Nat} {σ : L2.St} {H1 : Hp} {D : Addr} {Qd : Hp → Prop} {B : V → Hp → (Hp → Prop) → Prop} (Pv : Nat → Hp → Prop) (h0 : Pv 0 (upd H1 D (.lst []))) (hl : ∀ i H, i ≤ xs.length → Pv i H → SqL K H a xs)
    (hs : ∀ i x H, xs[i]? = some x → Pv i H → B x H (Pv (i + 1))) (hd : ∀ H, Pv xs.length H → Qd H) :
    ∃ W : Nat → Nat → Hp → Prop, (∃ m, W 0 m (upd H1 D (.lst []))) ∧ ∀ i m H, W i m H →
      ((Itl K a).stop i H ∧ Qd H) ∨ ((Itl K a).go i H ∧ ∃ Nx : Hp → Prop, (∀ H', Nx H' → ∃ m', m' < m ∧ W (i + 1) m' H') ∧ ∀ x H', (Itl K a).yld i H x H' → B x H' Nx) := by
  refine ⟨fun i m H => m = xs.length - i ∧ i ≤ xs.length ∧ Pv i H, ⟨xs.length, by simp, Nat.zero_le _, h0⟩, ?_⟩
  rintro i m H ⟨rfl, hi, p⟩
  have q := hl i H hi p
  by_cases hlt : i < xs.length
  · refine .inr ⟨⟨xs, xs[i], q, by simp [hlt]⟩, Pv (i + 1), fun H' p' => ⟨xs.length - (i + 1), by omega, rfl, hlt, p'⟩, fun x H' y => ?_⟩
    obtain ⟨e, y⟩ := y
    subst e
    exact hs i x _ (y xs q) p
  · have e : i = xs.length := by omega
    subst e
    exact .inl ⟨⟨xs, q, Nat.le_refl _⟩, hd H p⟩
end Rn
namespace Rn
open PySem PySem.Spec PyProof.Rows L2
abbrev N0 : Hp := fun _ => none
theorem flat_app : ∀ {As Bs : List Lay}, (∀ L ∈ As, L.ok = true) → (∀ L ∈ Bs, L.ok = true) → flatL (As ++ Bs) = nestL (flatL As) (flatL Bs)
  | [], Bs, _, _ => by
    show flatL Bs = nestL [] (flatL Bs)
    rw [nil_nestL]
  | A :: As, Bs, h, h2 => by
    have h3 : ∀ L ∈ A :: (As ++ Bs), L.ok = true := fun L hL => by
      rcases List.mem_cons.mp hL with e | e
      · exact h L (e ▸ List.mem_cons_self)
      · rcases List.mem_append.mp e with z | z
        · exact h L (List.mem_cons_of_mem _ z)
        · exact h2 L z
    show flatL (A :: (As ++ Bs)) = _
    rw [flatL_cons h3, flatL_cons h, flat_app (fun L hL => h L (List.mem_cons_of_mem _ hL)) h2, nestL_assoc]
def sameC : Lay → Lay → Bool
  | .con w _, .con v _ => decide (w = v)
  | _, _ => false
theorem NestV.swap {H0 G : Hp} {p t : Addr} {us : List V} {u : V} {A : List Lay} {B C : Lay} (h : NestV H0 G p (us ++ [u]) (A ++ [B])) (hx : LayAt G (.ref t) C) (ne : t ≠ p) (fr : H0 t = none) :
    NestV H0 (upd G p (.lst (us ++ [.ref t]))) p (us ++ [.ref t]) (A ++ [C]) := by
  obtain ⟨h1, h2, h3, h4⟩ := h
  have hl : us.length = A.length := by
    rw [List.length_append, List.length_append] at h2
    exact Nat.succ.inj h2
  refine ⟨upd_same, by rw [List.length_append, List.length_append, hl]; rfl, fun i v M a b => ?_, fun y hy => ?_⟩
  · by_cases hi : i < us.length
    · rw [List.getElem?_append_left hi] at a
      rw [List.getElem?_append_left (by omega)] at b
      exact (h3 i v M (by rw [List.getElem?_append_left hi]; exact a) (by rw [List.getElem?_append_left (by omega)]; exact b)).keep fun y e => (h4 y (List.mem_append_left _ (e ▸ List.mem_of_getElem? a))).1
    · rw [List.getElem?_append_right (by omega)] at a
      rw [List.getElem?_append_right (by omega), ← hl] at b
      generalize i - us.length = k at *
      cases k with
      | zero =>
        cases a
        cases b
        exact hx.keep fun y e => by cases e; exact ne
      | succ k => cases a
  · rcases List.mem_append.mp hy with z | z
    · exact h4 y (List.mem_append_left _ z)
    · have := List.mem_singleton.mp z
      cases this
      exact ⟨ne, fr⟩
theorem ixN_last {n : Nat} (h : 0 < n) : ixN n (-1) = some (n - 1) := by
  unfold ixN
  rw [if_neg (by decide)]
  first
    | (rw [if_pos (by omega)]; congr 1; omega)
    | (simp; omega)
theorem set_last {α : Type} (us : List α) (u x : α) : (us ++ [u]).set ((us ++ [u]).length - 1) x = us ++ [x] := by
  rw [List.length_append, List.length_singleton, Nat.add_sub_cancel, List.set_append_right _ _ (Nat.le_refl _), Nat.sub_self]
  rfl
end Rn

set_option Elab.async false
set_option linter.all false
set_option maxRecDepth 100000
set_option maxHeartbeats 4000000
namespace Rn
open PySem PySem.Spec PyProof.Rows L2
section
variable {X : Cx}
theorem op_isB : OpR X (compareOp .Is) (fun x y H Q => ∃ a b : Bool, x = .bl a ∧ y = .bl b ∧ Q (.bl (decide (a = b))) H) := by
  intro pins s σ H x y v u Q I rx ry h
  obtain ⟨a, b, rfl, rfl, q⟩ := h
  cases rx
  cases ry
  refine wpAny_is_plain rfl (fin_bl I q ?_)
  cases a <;> cases b <;> rfl
/-- o[lo:hi] = a list -/
def gSlc (to tl th : TE) : TG := fun v σ H Q => to σ H fun x H1 => tPart tl σ H1 fun l H2 => tPart th σ H2 fun u H3 => ∃ (a b : Addr) (xs ys : List V) (i j : Nat), x = .ref a ∧ v = .ref b ∧ l = some (i : Int) ∧ u = some (j : Int) ∧ H3 a = some (.lst xs) ∧ H3 b = some (.lst ys) ∧ a ≠ b ∧
  i ≤ j ∧ j ≤ xs.length ∧ xs.length + ys.length ≤ sizeLine ∧ Q σ (upd H3 a (.lst (xs.take i ++ ys ++ xs.drop j)))
theorem pg_slc {o lo hi : Expr} {to tl th : TE} {p2 pos : Pos} (ho : PE X o to) (hl : PE X lo tl) (hh : PE X hi th)
    (ha : ∀ v, assign (.Subscript o (.Slice (some lo) (some hi) none p2) pos) X.env v = (do
      let ov ← holding [v] (eval o X.env)
      let iv ← holding [v, ov] (eval (.Slice (some lo) (some hi) none p2) X.env)
      standAt pos
      holding [v, ov, iv] (setItem ov iv v)
      release [iv, v, ov] []) := by intro _; rfl) : PG X (.Subscript o (.Slice (some lo) (some hi) none p2) pos) (gSlc to tl th) := by
  refine ⟨fun pins s σ H v u Q I r h => ?_⟩
  rw [ha]
  refine wpAny_bind (wpAny_holding (thn (ho.run pins s σ H _ I h) fun ov s1 z1 => ?_))
  obtain ⟨x, H1, I1, r1, q1⟩ := z1
  refine wpAny_bind (wpAny_holding (wpAny_Slice (thn ((po_some hl).run pins s1 σ H1 _ I1 q1) fun vl s2 z2 => ?_)))
  obtain ⟨l, H2, I2, pl, q2⟩ := z2
  refine thn ((po_some hh).run pins s2 σ H2 _ I2 q2) fun vu s3 z3 => ?_
  obtain ⟨w, H3, I3, pu, q3⟩ := z3
  rw [evalPart_none]
  refine wpAny_pure ?_
  obtain ⟨a, b, xs, ys, i, j, rfl, rfl, rfl, rfl, hH, hB, hne, hij, hj, hz, q⟩ := q3
  have I4 : Inv X pins σ H3 { s3 with heap := s3.heap.push { cls := .type "slice", data := .fields #[vl, vu, .none] } } := I3.kept (t' := s3.toks) fun b ob q => Heap.get?_push_of_some _ q
  cases r1
  cases r
  cases pl with
  | int _ t1 =>
  cases pu with
  | int _ t2 =>
  refine wpAny_bind (wpAny_standAt (wpAny_bind (wpAny_holding (set_slice I4 hH hB hne (Heap.IsSliceOf.new ..) ⟨t1, rfl⟩ ⟨t2, rfl⟩ (by omega) (by omega) (by omega) hz fun s' I' => ?_))))
  exact wpAny_release ⟨σ, _, I', q⟩
end
theorem attOf_cons (L : Lay) (Ls : List Lay) : attOf (L :: Ls) = L.cnt * attOf Ls := by
  have key : ∀ (Ls : List Lay) (a : Int), Ls.foldl (fun a L => a * L.cnt) a = a * attOf Ls := by
    intro Ls
    induction Ls with
    | nil => intro a; show a = a * 1; omega
    | cons L Ls ih =>
      intro a
      have h1 := ih (a * L.cnt)
      have h2 := ih (1 * L.cnt)
      show Ls.foldl (fun a L => a * L.cnt) (a * L.cnt) = a * Ls.foldl (fun a L => a * L.cnt) (1 * L.cnt)
      rw [h1, h2, Int.one_mul, Int.mul_assoc]
  have := key Ls (1 * L.cnt)
  rw [Int.one_mul] at this
  show Ls.foldl (fun a L => a * L.cnt) (1 * L.cnt) = _
  rw [Int.one_mul]
  exact this
theorem attOf_app : ∀ (As Bs : List Lay), attOf (As ++ Bs) = attOf As * attOf Bs
  | [], Bs => by show attOf Bs = 1 * attOf Bs; omega
  | A :: As, Bs => by rw [List.cons_append, attOf_cons, attOf_cons, attOf_app As Bs, Int.mul_assoc]
theorem attOf_rev : ∀ (As : List Lay), attOf As.reverse = attOf As
  | [] => rfl
  | A :: As => by
    rw [List.reverse_cons, attOf_snoc, attOf_rev As, attOf_cons, Int.mul_comm]
def layB : Lay → Lay → Bool
  | .pol ns, .pol ms => decide (ns = ms)
  | .con w n, .con v m => decide (w = v) && decide (n = m)
  | _, _ => false
theorem layB_iff {L M : Lay} : layB L M = true ↔ L = M := by
  cases L with
  | pol ns =>
    cases M with
    | pol ms =>
      show decide (ns = ms) = true ↔ _
      rw [decide_eq_true_eq]
      exact ⟨fun z => by rw [z], fun z => by injection z⟩
    | con w n => exact ⟨fun z => (by cases z), fun z => (by cases z)⟩
  | con w n =>
    cases M with
    | pol ms => exact ⟨fun z => (by cases z), fun z => (by cases z)⟩
    | con v m =>
      show (decide (w = v) && decide (n = m)) = true ↔ _
      rw [Bool.and_eq_true, decide_eq_true_eq, decide_eq_true_eq]
      exact ⟨fun ⟨h1, h2⟩ => by rw [h1, h2], fun z => by injection z with a b; exact ⟨a, b⟩⟩
def laysB : List Lay → List Lay → Bool
  | [], [] => true
  | L :: Ls, M :: Ms => layB L M && laysB Ls Ms
  | _, _ => false
theorem laysB_iff : ∀ {Ls Ms : List Lay}, laysB Ls Ms = true ↔ Ls = Ms
  | [], [] => ⟨fun _ => rfl, fun _ => rfl⟩
  | [], _ :: _ => ⟨fun z => (by cases z), fun z => (by cases z)⟩
  | _ :: _, [] => ⟨fun z => (by cases z), fun z => (by cases z)⟩
  | L :: Ls, M :: Ms => by
    show (layB L M && laysB Ls Ms) = true ↔ _
    rw [Bool.and_eq_true, layB_iff, laysB_iff]
    exact ⟨fun ⟨h1, h2⟩ => by rw [h1, h2], fun z => by injection z with a b; exact ⟨a, b⟩⟩
theorem eqv_dat (L M : Lay) : PyData.eqv L.dat M.dat = layB L M := by
  cases L with
  | pol ns =>
    cases M with
    | pol ms =>
      show PyData.eqv (dInts ns) (dInts ms) = decide (ns = ms)
      exact eqv_ints ns ms
    | con w n =>
      show PyData.eqv (.list _) (.tuple _) = false
      simp [PyData.eqv]
  | con w n =>
    cases M with
    | pol ms =>
      show PyData.eqv (.tuple _) (.list _) = false
      simp [PyData.eqv]
    | con v m =>
      show PyData.eqv (.tuple [.int w, .int n]) (.tuple [.int v, .int m]) = (decide (w = v) && decide (n = m))
      simp only [PyData.eqv, PyData.eqvAll]
      by_cases h1 : w = v <;> by_cases h2 : n = m <;> simp [h1, h2]
theorem eqv_lays : ∀ (Ls Ms : List Lay), PyData.eqv (.list (Ls.map Lay.dat)) (.list (Ms.map Lay.dat)) = laysB Ls Ms := by
  have key : ∀ (Ls Ms : List Lay), PyData.eqvAll (Ls.map Lay.dat) (Ms.map Lay.dat) = laysB Ls Ms := by
    intro Ls
    induction Ls with
    | nil => intro Ms; cases Ms <;> simp [PyData.eqvAll, laysB]
    | cons L Ls ih =>
      intro Ms
      cases Ms with
      | nil => simp [PyData.eqvAll, laysB]
      | cons M Ms => simp only [List.map_cons, PyData.eqvAll, eqv_dat, ih Ms, laysB]
  intro Ls Ms
  simp only [PyData.eqv]
  exact key Ls Ms
theorem shaped_lays (Ls : List Lay) : SeqAt.shaped (.list (Ls.map Lay.dat)) = true := by
  have key : ∀ Ls : List Lay, PyData.canLayAll0 (Ls.map Lay.dat) = true ∧ PyData.depthAll (Ls.map Lay.dat) ≤ 2 := by
    intro Ls
    induction Ls with
    | nil => exact ⟨by simp [PyData.canLayAll0], by simp [PyData.depthAll]⟩
    | cons L Ls ih =>
      have h : L.dat.canLay0 = true ∧ L.dat.depth ≤ 2 := by
        cases L with
        | pol ns =>
          have := depth_ints ns
          exact ⟨by simp [Lay.dat, dInts, PyData.canLay0, canLay_ints ns], by simp only [Lay.dat, dInts, PyData.depth]; omega⟩
        | con w n => exact ⟨by simp [Lay.dat, PyData.canLay0, PyData.canLayAll0], by simp [Lay.dat, PyData.depth, PyData.depthAll]⟩
      refine ⟨by simp [PyData.canLayAll0, h.1, ih.1], ?_⟩
      simp only [List.map_cons, PyData.depthAll]
      omega
  obtain ⟨h1, h2⟩ := key Ls
  unfold SeqAt.shaped
  rw [Bool.and_eq_true]
  refine ⟨?_, decide_eq_true ?_⟩
  · simpa [PyData.canLay0] using h1
  · simp only [PyData.depth]
    omega
/-! ## layers beside their values -/
def LaysP (H : Hp) (ps : List (V × Lay)) : Prop := ∀ p ∈ ps, LayAt H p.1 p.2
theorem nest_pairs {H : Hp} {q : Addr} {Ls : List Lay} (h : NestAt H q Ls) : ∃ ps : List (V × Lay), H q = some (.lst (ps.map Prod.fst)) ∧ Ls = ps.map Prod.snd ∧ LaysP H ps := by
  obtain ⟨vs, h1, h2, h3⟩ := h
  refine ⟨vs.zip Ls, ?_, ?_, fun p hp => ?_⟩
  · rw [List.map_fst_zip (by omega)]
    exact h1
  · rw [List.map_snd_zip (by omega)]
  · obtain ⟨i, hi, e⟩ := List.getElem_of_mem hp
    rw [List.getElem_zip] at e
    subst e
    rw [List.length_zip] at hi
    exact h3 i _ _ (List.getElem?_eq_getElem (by omega)) (List.getElem?_eq_getElem (by omega))
theorem pairs_nest {H : Hp} {q : Addr} {ps : List (V × Lay)} (h : H q = some (.lst (ps.map Prod.fst))) (hp : LaysP H ps) : NestAt H q (ps.map Prod.snd) := by
  refine ⟨_, h, by rw [List.length_map, List.length_map], fun i v L a b => ?_⟩
  rw [List.getElem?_map] at a b
  cases e : ps[i]? with
  | none => rw [e] at a; cases a
  | some p =>
    rw [e] at a b
    cases a
    cases b
    exact hp p (List.mem_of_getElem? e)
theorem LaysP.same {H H' : Hp} {ps : List (V × Lay)} (h : LaysP H ps) (e : Same H H') : LaysP H' ps := fun p hp => (h p hp).same e
theorem LaysP.ne {H G : Hp} {a r : Addr} {ps : List (V × Lay)} (h : LaysP (hid a a H) ps) (f : H r = none) : ∀ p ∈ ps, ∀ x, p.1 = V.ref x → x ≠ r := fun p hp x e z => by
  have := h p hp
  have key : ∃ o, hid a a H x = some o := by
    revert this
    cases p.2 with
    | pol ns => intro ⟨y, h1, h2⟩; rw [e] at h1; cases h1; exact ⟨_, h2⟩
    | con w n => intro ⟨y, h1, h2⟩; rw [e] at h1; cases h1; exact ⟨_, h2⟩
  obtain ⟨o, ho⟩ := key
  have := (hid_get ho).1
  rw [z, f] at this
  cases this
theorem flat_one {ns : List Int} (h : (Lay.pol ns).ok = true) : flatL [.pol ns] = ns := by
  rw [flatL_cons fun L hL => by rw [List.mem_singleton.mp hL]; exact h]
  exact nestL_nil _
theorem flat_nn {Ls : List Lay} (h : ∀ L ∈ Ls, L.ok = true) : (Lay.pol (flatL Ls)).ok = true := by
  rw [Lay.ok_pol, List.all_eq_true]
  have key : ∀ Ls : List Lay, (∀ L ∈ Ls, L.ok = true) → ∀ x ∈ flatL Ls, 0 ≤ x := by
    intro Ls
    induction Ls with
    | nil => intro _ x hx; cases hx
    | cons L Ls ih =>
      intro h x hx
      rw [flatL_cons h] at hx
      rcases nestL_mem hx with z | z
      · have ho := h L List.mem_cons_self
        cases L with
        | pol ns =>
          rw [Lay.ok_pol, List.all_eq_true] at ho
          exact of_decide_eq_true (ho x z)
        | con w n =>
          rw [Lay.ok_con, Bool.and_eq_true] at ho
          rw [(List.mem_replicate.mp (show x ∈ List.replicate (n - 1).toNat w from z)).2]
          exact of_decide_eq_true ho.1
      · exact ih (fun M hM => h M (List.mem_cons_of_mem _ hM)) x z
  exact fun x hx => decide_eq_true (key Ls h x hx)
theorem nf_snoc {acc : List Lay} {L : Lay} (h : NF acc) (hL : L.nf) (hn : ∀ A w n v m, acc = A ++ [.con w n] → L = .con v m → w ≠ v) : NF (acc ++ [L]) := by
  rcases push_cases acc L with ⟨A, w, n, m, rfl, rfl, _⟩ | ⟨e, _⟩
  · exact absurd rfl (hn A w n w m rfl rfl)
  · rw [← e]
    exact (push_ok h hL).1
def Small (ps : List (V × Lay)) : Prop := ∀ x ∈ ps, x.2.cnt ≤ 29 ∧ ∀ w n, x.2 = .con w n → n ≤ 12
end Rn

set_option Elab.async false
set_option linter.all false
set_option maxRecDepth 100000
set_option maxHeartbeats 4000000
namespace Rn
open PySem PySem.Spec PyProof.Rows L2
/-! ## the source of draws that is a dict: at a, its great numbers at g; at most n draws were mixed -/
def bagKV (g : Addr) (l t f : Int) : List (Key × V) := [(Sum.inr "great", .ref g), (Sum.inr "left", .int l), (Sum.inr "turn", .int t), (Sum.inr "fold", .int f)]
theorem bag_left {g : Addr} {l t f x : Int} : putK (bagKV g l t f) (Sum.inr "left") (.int x) = bagKV g x t f := by rfl
theorem bag_turn {g : Addr} {l t f x : Int} : putK (bagKV g l t f) (Sum.inr "turn") (.int x) = bagKV g l x f := by rfl
theorem bag_get {H : Hp} {a g : Addr} {l t f : Int} (h : H a = some (.dK (bagKV g l t f))) : DGet H a (.str "left") (some (.int l)) ∧ DGet H a (.str "great") (some (.ref g)) ∧ DGet H a (.str "turn") (some (.int t)) ∧ DGet H a (.str "fold") (some (.int f)) :=
  ⟨DGet.k (k := Sum.inr "left") h, DGet.k (k := Sum.inr "great") h, DGet.k (k := Sum.inr "turn") h, DGet.k (k := Sum.inr "fold") h⟩
def Bag (H : Hp) (a g : Addr) (n : Int) : Prop := ∃ (l t f : Int) (ds : List Int), H a = some (.dK (bagKV g l t f)) ∧ H g = some (.lst (ds.map V.int)) ∧ 0 ≤ f ∧ f < 2305843009213693951 ∧ 0 ≤ t ∧ t ≤ n
theorem Bag.ne {H : Hp} {a g : Addr} {n : Int} (s : Bag H a g n) : a ≠ g := by
  obtain ⟨l, t, f, ds, h1, h2, _⟩ := s
  intro e
  rw [e, h2] at h1
  cases h1
theorem Bag.same {H H' : Hp} {a g : Addr} {n : Int} (s : Bag H a g n) (e : Same H H') : Bag H' a g n := by
  obtain ⟨l, t, f, ds, h1, h2, h3⟩ := s
  exact ⟨l, t, f, ds, e _ _ h1, e _ _ h2, h3⟩
theorem Bag.keep {H : Hp} {a g p : Addr} {o : HO} {n : Int} (s : Bag H a g n) (ha : p ≠ a) (hg : p ≠ g) : Bag (upd H p o) a g n := by
  obtain ⟨l, t, f, ds, h1, h2, h3⟩ := s
  exact ⟨l, t, f, ds, by rw [upd_ne ha.symm]; exact h1, by rw [upd_ne hg.symm]; exact h2, h3⟩
theorem Bag.mono {H : Hp} {a g : Addr} {n m : Int} (s : Bag H a g n) (h : n ≤ m) : Bag H a g m := by
  obtain ⟨l, t, f, ds, h1, h2, h3, h4, h5, h6⟩ := s
  exact ⟨l, t, f, ds, h1, h2, h3, h4, h5, Int.le_trans h6 h⟩
theorem Bag.new1 {H : Hp} {a g p : Addr} {n : Int} (s : Bag H a g n) (h : H p = none) : p ≠ a ∧ p ≠ g := by
  obtain ⟨l, t, f, ds, h1, h2, _⟩ := s
  exact ⟨(ne_of_none h1 h).symm, (ne_of_none h2 h).symm⟩
/-- what a call that draws at most c times does to the heap -/
structure Bdv (a g : Addr) (c : Int) (H H' : Hp) : Prop where
  same : Same (hid a g H) (hid a g H')
  src : ∀ n, Bag H a g n → Bag H' a g (n + c)
theorem Bdv.refl {a g : Addr} {H : Hp} : Bdv a g 0 H H := ⟨Same.refl _, fun n s => s.mono (by omega)⟩
theorem Bdv.trans {a g : Addr} {c c' e : Int} {H H1 H2 : Hp} (x : Bdv a g c H H1) (y : Bdv a g c' H1 H2) (h : c + c' ≤ e) : Bdv a g e H H2 :=
  ⟨x.same.trans y.same, fun n s => (y.src _ (x.src _ s)).mono (by omega)⟩
theorem Bdv.mono {a g : Addr} {c e : Int} {H H1 : Hp} (x : Bdv a g c H H1) (h : c ≤ e) : Bdv a g e H H1 := ⟨x.same, fun n s => (x.src _ s).mono (by omega)⟩
theorem Bdv.of {a g : Addr} {H H' : Hp} (e : Same H H') : Bdv a g 0 H H' := ⟨hid_same e, fun n s => (s.same e).mono (by omega)⟩
theorem Bdv.mut {a g : Addr} {c : Int} {H H' : Hp} {p : Addr} {o : HO} {n : Int} (x : Bdv a g c H H') (s : Bag H a g n) (h : H p = none) : Bdv a g c H (upd H' p o) := by
  obtain ⟨h1, h2⟩ := s.new1 h
  refine ⟨?_, fun m t => (x.src m t).keep h1 h2⟩
  rw [hid_oth h1 h2]
  exact same_keep x.same (hid_none h)
theorem Bdv.free {a g p : Addr} {c n : Int} {H H' : Hp} (x : Bdv a g c H H') (s : Bag H a g n) (h : H' p = none) : H p = none := by
  obtain ⟨h1, h2⟩ := (x.src n s).new1 h
  cases q : H p with
  | none => rfl
  | some o =>
    have e := (hid_get (x.same p o (hid_at q h1 h2))).1
    rw [h] at e
    cases e
theorem Bdv.made {a g : Addr} {c l t f l' t' : Int} {H H' : Hp} {ds' : List Int} (e : Same (hid a g H) (hid a g H')) (h : H a = some (.dK (bagKV g l t f)))
    (h' : H' a = some (.dK (bagKV g l' t' f))) (hg' : H' g = some (.lst (ds'.map V.int))) (h0 : t ≤ t') (h1 : t' ≤ t + c) : Bdv a g c H H' := by
  refine ⟨e, fun n s => ?_⟩
  obtain ⟨l2, t2, f2, ds, a1, a2, a3, a4, a5, a6⟩ := s
  rw [h] at a1
  injection (Option.some.inj a1) with a1
  injection a1 with _ a1
  injection a1 with _ a1
  injection a1 with b1 a1
  injection a1 with b2 _
  injection b1 with _ b1
  injection b1 with b1
  injection b2 with _ b2
  injection b2 with b2
  subst b1 b2
  exact ⟨l', t', f, ds', h', hg', a3, a4, by omega, by omega⟩
/-- a list of the way that stands beside the source -/
theorem sq_bag {K : PySem.W.Frag} {H0 H1 H' : Hp} {sa a g : Addr} {c : Int} {xs : List V} (h : SqL K H0 sa xs) (f : H0 a = none) (f2 : H0 g = none) (s : Same H0 H1) (A : Bdv a g c H1 H') : SqL K H' sa xs := by
  rcases h with (h | ⟨o, h⟩) | h
  · have h1 := s _ _ h
    have n1 : sa ≠ a := fun e => by rw [e, f] at h; cases h
    have n2 : sa ≠ g := fun e => by rw [e, f2] at h; cases h
    exact .inl (.inl (hid_get (A.same _ _ (hid_at h1 n1 n2))).1)
  · have h1 := s _ _ h
    have n1 : sa ≠ a := fun e => by rw [e, f] at h; cases h
    have n2 : sa ≠ g := fun e => by rw [e, f2] at h; cases h
    exact .inl (.inr ⟨o, (hid_get (A.same _ _ (hid_at h1 n1 n2))).1⟩)
  · exact .inr h
/-- a dict comprehension over a list that stands still -/
theorem dc_list {K : PySem.W.Frag} {a : Addr} {xs : List V} {g : TG} {tt : TT} {tk tv : TE} {vs : List Nat} {σ : L2.St} {H1 : Hp} {D : Addr} {Qd : Hp → Prop} (Pv : Nat → Hp → Prop) (h0 : Pv 0 (upd H1 D (.dK [])))
    (hl : ∀ i H, i ≤ xs.length → Pv i H → SqL K H a xs)
    (hs : ∀ i x H, xs[i]? = some x → Pv i H → g x (wipe σ vs) H fun σ2 H2 => wipe σ2 vs = wipe σ vs ∧ tt σ2 H2 fun b H3 =>
      if b = true then tk σ2 H3 fun y H4 => tv σ2 H4 fun z H5 => ∃ kvs k, y = kV k ∧ H5 D = some (.dK kvs) ∧ kvs.length < sizeLine ∧ Pv (i + 1) (upd H5 D (.dK (putK kvs k z))) else Pv (i + 1) H3) (hd : ∀ H, Pv xs.length H → Qd H) :
    ∃ W : Nat → Nat → Hp → Prop, (∃ m, W 0 m (upd H1 D (.dK []))) ∧ ∀ i m H, W i m H →
      ((Itl K a).stop i H ∧ Qd H) ∨ ((Itl K a).go i H ∧ ∃ Nx : Hp → Prop, (∀ H', Nx H' → ∃ m', m' < m ∧ W (i + 1) m' H') ∧ ∀ x H', (Itl K a).yld i H x H' → g x (wipe σ vs) H' fun σ2 H2 => wipe σ2 vs = wipe σ vs ∧ tt σ2 H2 fun b H3 =>
        if b = true then tk σ2 H3 fun y H4 => tv σ2 H4 fun z H5 => ∃ kvs k, y = kV k ∧ H5 D = some (.dK kvs) ∧ kvs.length < sizeLine ∧ Nx (upd H5 D (.dK (putK kvs k z))) else Nx H3) := by
  refine ⟨fun i m H => m = xs.length - i ∧ i ≤ xs.length ∧ Pv i H, ⟨xs.length, by simp, Nat.zero_le _, h0⟩, ?_⟩
  rintro i m H ⟨rfl, hi, p⟩
  have q := hl i H hi p
  by_cases hlt : i < xs.length
  · refine .inr ⟨⟨xs, xs[i], q, by simp [hlt]⟩, Pv (i + 1), fun H' p' => ⟨xs.length - (i + 1), by omega, rfl, hlt, p'⟩, fun x H' y => ?_⟩
    obtain ⟨e, y⟩ := y
    subst e
    exact hs i x _ (y xs q) p
  · have e : i = xs.length := by omega
    subst e
    exact .inl ⟨⟨xs, q, Nat.le_refl _⟩, hd H p⟩
/-! ## comprehensions over ints -/
/-- [x for x in range(lo, lo + n) if p(x)], where a turn changes nothing -/
theorem lc_filter {lo : Int} {n : Nat} {g : TG} {tt : TT} {te : TE} {vs : List Nat} {σ : L2.St} {H1 : Hp} {D : Addr} {Qd : Hp → Prop} (p : Int → Bool) (hD : H1 D = none) (hn : n ≤ 50000)
    (hs : ∀ i H (T : V → Hp → Prop) (F : Hp → Prop), i < n → Same H1 H → (p (lo + (i : Int)) = true → T (.int (lo + (i : Int))) H) → (p (lo + (i : Int)) = false → F H) →
      g (.int (lo + (i : Int))) (wipe σ vs) H fun σ2 H2 => wipe σ2 vs = wipe σ vs ∧ tt σ2 H2 fun b H3 => if b = true then te σ2 H3 T else F H3)
    (hd : ∀ H2, Same H1 H2 → H2 D = some (.lst ((((List.range n).map fun i : Nat => lo + (i : Int)).filter p).map V.int)) → Qd H2) :
    ∃ W : Nat → Nat → Hp → Prop, (∃ m, W 0 m (upd H1 D (.lst []))) ∧ ∀ i m H, W i m H →
      ((Itr lo n).stop i H ∧ Qd H) ∨ ((Itr lo n).go i H ∧ ∃ Nx : Hp → Prop, (∀ H', Nx H' → ∃ m', m' < m ∧ W (i + 1) m' H') ∧ ∀ x H', (Itr lo n).yld i H x H' → g x (wipe σ vs) H' fun σ2 H2 => wipe σ2 vs = wipe σ vs ∧ tt σ2 H2 fun b H3 =>
        if b = true then te σ2 H3 fun y H4 => ∃ acc, H4 D = some (.lst acc) ∧ acc.length < sizeLine ∧ Nx (upd H4 D (.lst (acc ++ [y]))) else Nx H3) := by
  have tk : ∀ i : Nat, ((List.range (i + 1)).map fun i : Nat => lo + (i : Int)).filter p = ((List.range i).map fun i : Nat => lo + (i : Int)).filter p ++ (if p (lo + (i : Int)) = true then [lo + (i : Int)] else []) := fun i => by
    rw [List.range_succ, List.map_append, List.filter_append]
    congr 1
    rw [List.map_cons, List.map_nil, List.filter_cons, List.filter_nil]
  refine lc_range (fun i H' => Same H1 H' ∧ H' D = some (.lst ((((List.range i).map fun i : Nat => lo + (i : Int)).filter p).map V.int))) ⟨same_new hD, upd_same⟩ (fun i H hi h => ?_) (fun H h => hd H h.1 h.2)
  obtain ⟨sm, hd1⟩ := h
  refine hs i H _ _ hi sm (fun e => ?_) (fun e => ?_)
  · refine ⟨_, hd1, size_lt ?_, same_keep sm hD, ?_⟩
    · rw [List.length_map]
      have := List.length_filter_le p ((List.range i).map fun i : Nat => lo + (i : Int))
      rw [List.length_map, List.length_range] at this
      omega
    · rw [upd_same, tk, if_pos e, List.map_append]
      rfl
  · refine ⟨sm, ?_⟩
    rw [tk, if_neg (by rw [e]; exact Bool.false_ne_true), List.append_nil]
    exact hd1
/-- [f(x) for x in ns], where a turn changes nothing that stood -/
theorem lc_mapI {K : PySem.W.Frag} {a : Addr} {ns : List Int} {g : TG} {te : TE} {vs : List Nat} {σ : L2.St} {H1 : Hp} {D : Addr} {Qd : Hp → Prop} (f : Int → Int) (hD : H1 D = none) (ha : SqL K H1 a (ns.map V.int)) (hn : ns.length ≤ 50000)
    (hs : ∀ (i : Nat) x H (T : V → Hp → Prop), ns[i]? = some x → Same H1 H → (∀ H', Same H H' → T (.int (f x)) H') → g (.int x) (wipe σ vs) H fun σ2 H2 => wipe σ2 vs = wipe σ vs ∧ te σ2 H2 T)
    (hd : ∀ H2, Same H1 H2 → H2 D = some (.lst ((ns.map f).map V.int)) → Qd H2) (hg : ∀ x σ H (R R' : L2.St → Hp → Prop), (∀ σ H, R σ H → R' σ H) → g x σ H R → g x σ H R') :
    ∃ W : Nat → Nat → Hp → Prop, (∃ m, W 0 m (upd H1 D (.lst []))) ∧ ∀ i m H, W i m H →
      ((Itl K a).stop i H ∧ Qd H) ∨ ((Itl K a).go i H ∧ ∃ Nx : Hp → Prop, (∀ H', Nx H' → ∃ m', m' < m ∧ W (i + 1) m' H') ∧ ∀ x H', (Itl K a).yld i H x H' → g x (wipe σ vs) H' fun σ2 H2 => wipe σ2 vs = wipe σ vs ∧ tYes σ2 H2 fun b H3 =>
        if b = true then te σ2 H3 fun y H4 => ∃ acc, H4 D = some (.lst acc) ∧ acc.length < sizeLine ∧ Nx (upd H4 D (.lst (acc ++ [y]))) else Nx H3) := by
  refine lc_list (xs := ns.map V.int) (fun i H' => Same H1 H' ∧ H' D = some (.lst (((ns.take i).map f).map V.int))) ⟨same_new hD, upd_same⟩ (fun i H _ h => h.1.seq ha) (fun i x H hx h => ?_) (fun H h => hd H h.1 ?_)
  · obtain ⟨sm, hd1⟩ := h
    rw [List.getElem?_map] at hx
    obtain ⟨c, hc, rfl⟩ := Option.map_eq_some_iff.mp hx
    have hi : i < ns.length := (List.getElem?_eq_some_iff.mp hc).1
    refine hg _ _ _ _ _ (fun σ2 H2 z => ⟨z.1, yes_thn z.2⟩) (hs i c H _ hc sm fun H' s' => ?_)
    refine ⟨_, s' _ _ hd1, size_lt (by rw [List.length_map, List.length_map, List.length_take]; omega), same_keep (sm.trans s') hD, ?_⟩
    rw [upd_same, List.take_add_one, hc, Option.toList_some, List.map_append, List.map_append]
    rfl
  · have := h.2
    rw [List.length_map, List.take_length] at this
    exact this
theorem gName_mono {i : Nat} : ∀ x σ H (R R' : L2.St → Hp → Prop), (∀ σ H, R σ H → R' σ H) → gName i x σ H R → gName i x σ H R' := fun x σ H R R' k h => k _ _ h
/-- [f(x) for x in ns], any values -/
theorem lc_mapV {K : PySem.W.Frag} {a : Addr} {ns : List Int} {g : TG} {te : TE} {vs : List Nat} {σ : L2.St} {H1 : Hp} {D : Addr} {Qd : Hp → Prop} (f : Int → V) (hD : H1 D = none) (ha : SqL K H1 a (ns.map V.int)) (hn : ns.length ≤ 50000)
    (hs : ∀ (i : Nat) x H (T : V → Hp → Prop), ns[i]? = some x → Same H1 H → (∀ H', Same H H' → T (f x) H') → g (.int x) (wipe σ vs) H fun σ2 H2 => wipe σ2 vs = wipe σ vs ∧ te σ2 H2 T)
    (hd : ∀ H2, Same H1 H2 → H2 D = some (.lst (ns.map f)) → Qd H2) (hg : ∀ x σ H (R R' : L2.St → Hp → Prop), (∀ σ H, R σ H → R' σ H) → g x σ H R → g x σ H R') :
    ∃ W : Nat → Nat → Hp → Prop, (∃ m, W 0 m (upd H1 D (.lst []))) ∧ ∀ i m H, W i m H →
      ((Itl K a).stop i H ∧ Qd H) ∨ ((Itl K a).go i H ∧ ∃ Nx : Hp → Prop, (∀ H', Nx H' → ∃ m', m' < m ∧ W (i + 1) m' H') ∧ ∀ x H', (Itl K a).yld i H x H' → g x (wipe σ vs) H' fun σ2 H2 => wipe σ2 vs = wipe σ vs ∧ tYes σ2 H2 fun b H3 =>
        if b = true then te σ2 H3 fun y H4 => ∃ acc, H4 D = some (.lst acc) ∧ acc.length < sizeLine ∧ Nx (upd H4 D (.lst (acc ++ [y]))) else Nx H3) := by
  refine lc_list (xs := ns.map V.int) (fun i H' => Same H1 H' ∧ H' D = some (.lst ((ns.take i).map f))) ⟨same_new hD, upd_same⟩ (fun i H _ h => h.1.seq ha) (fun i x H hx h => ?_) (fun H h => hd H h.1 ?_)
  · obtain ⟨sm, hd1⟩ := h
    rw [List.getElem?_map] at hx
    obtain ⟨c, hc, rfl⟩ := Option.map_eq_some_iff.mp hx
    have hi : i < ns.length := (List.getElem?_eq_some_iff.mp hc).1
    refine hg _ _ _ _ _ (fun σ2 H2 z => ⟨z.1, yes_thn z.2⟩) (hs i c H _ hc sm fun H' s' => ?_)
    refine ⟨_, s' _ _ hd1, size_lt (by rw [List.length_map, List.length_take]; omega), same_keep (sm.trans s') hD, ?_⟩
    rw [upd_same, List.take_add_one, hc, Option.toList_some, List.map_append]
    rfl
  · have := h.2
    rw [List.length_map, List.take_length] at this
    exact this
/-- [f(x) for x in range(lo, lo + n)], any values -/
theorem lc_mapR {lo : Int} {n : Nat} {g : TG} {te : TE} {vs : List Nat} {σ : L2.St} {H1 : Hp} {D : Addr} {Qd : Hp → Prop} (f : Int → V) (hD : H1 D = none) (hn : n ≤ 50000)
    (hs : ∀ (i : Nat) H (T : V → Hp → Prop), i < n → Same H1 H → (∀ H', Same H H' → T (f (lo + (i : Int))) H') → g (.int (lo + (i : Int))) (wipe σ vs) H fun σ2 H2 => wipe σ2 vs = wipe σ vs ∧ te σ2 H2 T)
    (hd : ∀ H2, Same H1 H2 → H2 D = some (.lst ((List.range n).map fun i : Nat => f (lo + (i : Int)))) → Qd H2) (hg : ∀ x σ H (R R' : L2.St → Hp → Prop), (∀ σ H, R σ H → R' σ H) → g x σ H R → g x σ H R') :
    ∃ W : Nat → Nat → Hp → Prop, (∃ m, W 0 m (upd H1 D (.lst []))) ∧ ∀ i m H, W i m H →
      ((Itr lo n).stop i H ∧ Qd H) ∨ ((Itr lo n).go i H ∧ ∃ Nx : Hp → Prop, (∀ H', Nx H' → ∃ m', m' < m ∧ W (i + 1) m' H') ∧ ∀ x H', (Itr lo n).yld i H x H' → g x (wipe σ vs) H' fun σ2 H2 => wipe σ2 vs = wipe σ vs ∧ tYes σ2 H2 fun b H3 =>
        if b = true then te σ2 H3 fun y H4 => ∃ acc, H4 D = some (.lst acc) ∧ acc.length < sizeLine ∧ Nx (upd H4 D (.lst (acc ++ [y]))) else Nx H3) := by
  refine lc_range (fun i H' => Same H1 H' ∧ H' D = some (.lst ((List.range i).map fun i : Nat => f (lo + (i : Int))))) ⟨same_new hD, upd_same⟩ (fun i H hi h => ?_) (fun H h => hd H h.1 h.2)
  obtain ⟨sm, hd1⟩ := h
  refine hg _ _ _ _ _ (fun σ2 H2 z => ⟨z.1, yes_thn z.2⟩) (hs i H _ hi sm fun H' s' => ?_)
  refine ⟨_, s' _ _ hd1, size_lt (by rw [List.length_map, List.length_range]; omega), same_keep (sm.trans s') hD, ?_⟩
  rw [upd_same, List.range_succ, List.map_append]
  rfl
/-- lists of ints at the addresses ps -/
def ListsAt (H : Hp) (ps : List Addr) (wss : List (List Int)) : Prop := Paired (fun p (ws : List Int) => H p = some (.lst (ws.map V.int))) ps wss
theorem ListsAt.same {H H' : Hp} {ps : List Addr} {wss : List (List Int)} (h : ListsAt H ps wss) (e : Same H H') : ListsAt H' ps wss := by
  induction h with
  | nil => exact .nil
  | cons r _ ih => exact .cons (e _ _ r) ih
theorem ListsAt.keep {H : Hp} {ps : List Addr} {wss : List (List Int)} {q : Addr} {o : HO} (h : ListsAt H ps wss) (hn : ∀ x ∈ ps, x ≠ q) : ListsAt (upd H q o) ps wss := by
  induction h with
  | nil => exact .nil
  | cons r _ ih => exact .cons (by rw [upd_ne (hn _ List.mem_cons_self)]; exact r) (ih fun x hx => hn x (List.mem_cons_of_mem _ hx))
theorem ListsAt.app {H : Hp} {ps qs : List Addr} {wss vss : List (List Int)} (h : ListsAt H ps wss) (h2 : ListsAt H qs vss) : ListsAt H (ps ++ qs) (wss ++ vss) := by
  induction h with
  | nil => exact h2
  | cons r _ ih => exact .cons r ih
theorem ListsAt.get {H : Hp} {ps : List Addr} {wss : List (List Int)} (h : ListsAt H ps wss) : ∀ {i : Nat} {p : Addr}, ps[i]? = some p → ∃ ws, wss[i]? = some ws ∧ H p = some (.lst (ws.map V.int)) := by
  induction h with
  | nil => intro i p z; cases z
  | cons r _ ih =>
    intro i p z
    cases i with
    | zero => cases z; exact ⟨_, rfl, r⟩
    | succ i => exact ih z
theorem ListsAt.len {H : Hp} {ps : List Addr} {wss : List (List Int)} (h : ListsAt H ps wss) : ps.length = wss.length := by
  induction h with
  | nil => rfl
  | cons _ _ ih => rw [List.length_cons, List.length_cons, ih]
theorem ListsAt.some {H : Hp} {ps : List Addr} {wss : List (List Int)} (h : ListsAt H ps wss) {p : Addr} (hp : p ∈ ps) : ∃ o, H p = some o := by
  obtain ⟨i, hi, e⟩ := List.getElem_of_mem hp
  obtain ⟨ws, _, z⟩ := h.get (i := i) (p := p) (by rw [List.getElem?_eq_getElem hi, e])
  exact ⟨_, z⟩
end Rn

set_option Elab.async false
set_option linter.all false
set_option maxRecDepth 100000
set_option maxHeartbeats 4000000
namespace Rn
open PySem PySem.Spec PyProof.Rows L2
/-! ## every policy has a normal form -/
theorem sm_exists (ws : List Int) (h0 : 0 < ws.length) : ∃ n, Sm ws n := by
  have key : ∀ m, 2 ≤ m → m ≤ ws.length + 1 → (∃ n, Sm ws n) ∨ ∀ j : Nat, 2 ≤ j → j < m → innB ws (j : Int) = false := by
    intro m
    induction m with
    | zero => intro h; omega
    | succ m ih =>
      intro h1 h2
      by_cases e : m < 2
      · exact .inr fun j a b => by omega
      · rcases ih (by omega) (by omega) with z | z
        · exact .inl z
        · cases q : innB ws (m : Int) with
          | true => exact .inl ⟨m, .inr ⟨by omega, by omega, q⟩, z⟩
          | false =>
            refine .inr fun j a b => ?_
            by_cases y : j = m
            · rw [y, q]
            · exact z j a (by omega)
  rcases key (ws.length + 1) (by omega) (Nat.le_refl _) with z | z
  · exact z
  · exact ⟨ws.length + 1, .inl rfl, z⟩
theorem parts_exist : ∀ (m : Nat) (ws : List Int), ws.length ≤ m → ∃ ls, Parts ws ls
  | 0, ws, h => by
    have : ws = [] := List.length_eq_zero_iff.mp (by omega)
    subst this
    exact ⟨[], .nil⟩
  | m + 1, ws, h => by
    by_cases h0 : 0 < ws.length
    · obtain ⟨n, hn⟩ := sm_exists ws h0
      obtain ⟨n2, hp⟩ := sm_per hn h0
      obtain ⟨q, hq⟩ := hp.2.1
      have q1 : 1 ≤ q := by
        rcases Nat.eq_zero_or_pos q with z | z
        · rw [z, Nat.mul_zero] at hq; omega
        · exact z
      have hl := high_len hp.1 q1 hq
      have hlt : (pks ws (n - 1) n).length ≤ m := by
        have : 2 * q ≤ n * q := Nat.mul_le_mul_right _ n2
        omega
      obtain ⟨ls, hls⟩ := parts_exist m _ hlt
      have lo := low_len hp
      by_cases c : Flat1 (blk ws n 0)
      · obtain ⟨w, hw⟩ := c
        rw [lo] at hw
        exact ⟨_, .con h0 hn hw hls⟩
      · exact ⟨_, .pol h0 hn c hls⟩
    · have : ws = [] := List.length_eq_zero_iff.mp (by omega)
      subst this
      exact ⟨[], .nil⟩
theorem nf_exists {ws : List Int} (h : ∀ x ∈ ws, 0 ≤ x) : ∃ ls, NF ls ∧ flatL ls = ws := by
  obtain ⟨ls, hls⟩ := parts_exist _ ws (Nat.le_refl _)
  obtain ⟨p1, p2⟩ := parts_ok hls h
  obtain ⟨m1, m2⟩ := merge_ok p1
  exact ⟨_, m1, m2.trans p2⟩
open Classical in
noncomputable def nfOf (ws : List Int) : List Lay := if h : ∃ ls, NF ls ∧ flatL ls = ws then h.choose else []
theorem nfOf_ok {ws : List Int} (h : ∀ x ∈ ws, 0 ≤ x) : NF (nfOf ws) ∧ flatL (nfOf ws) = ws := by
  have e := nf_exists h
  unfold nfOf
  rw [dif_pos e]
  exact e.choose_spec
theorem nfOf_eq {ws : List Int} {ls : List Lay} (h : ∀ x ∈ ws, 0 ≤ x) (n : NF ls) (e : flatL ls = ws) : nfOf ws = ls := by
  obtain ⟨a, b⟩ := nfOf_ok h
  exact nf_unique a n (b.trans e.symm)
/-! ## the normal form of a list of layers -/
theorem flat_pos : ∀ {Ls : List Lay}, (∀ L ∈ Ls, L.ok = true) → ∀ x ∈ flatL Ls, 0 ≤ x
  | [], _, x, hx => by cases hx
  | L :: Ls, h, x, hx => by
    rw [flatL_cons h] at hx
    rcases nestL_mem hx with z | z
    · have hL := h L List.mem_cons_self
      cases L with
      | pol ns =>
        rw [Lay.ok_pol, List.all_eq_true] at hL
        exact of_decide_eq_true (hL x z)
      | con w n =>
        have z' : x ∈ List.replicate (n - 1).toNat w := z
        rw [Lay.ok_con, Bool.and_eq_true] at hL
        rw [(List.mem_replicate.mp z').2]
        exact of_decide_eq_true hL.1
    · exact flat_pos (fun M hM => h M (List.mem_cons_of_mem _ hM)) x z
noncomputable def nfL (Ls : List Lay) : List Lay := nfOf (flatL Ls)
theorem nfL_ok {Ls : List Lay} (h : ∀ L ∈ Ls, L.ok = true) : NF (nfL Ls) ∧ flatL (nfL Ls) = flatL Ls := nfOf_ok (flat_pos h)
theorem nfL_is {Ls Ms : List Lay} (h : ∀ L ∈ Ls, L.ok = true) (n : NF Ms) (e : flatL Ms = flatL Ls) : nfL Ls = Ms := nfOf_eq (flat_pos h) n e
theorem nfL_nf {Ls : List Lay} (h : NF Ls) : nfL Ls = Ls := nfL_is h.oks h rfl
/-- nestings that the program can work with -/
structure Fit (Ls : List Lay) : Prop where
  ok : ∀ L ∈ Ls, L.ok = true
  few : Ls.length ≤ 20000
  small : (attOf Ls).natAbs < 2 ^ 9000
  short : ∀ ns, Lay.pol ns ∈ Ls → ns.length ≤ 20000
theorem nf_pow2 : ∀ {ls : List Lay}, (∀ L ∈ ls, L.nf) → 2 ^ ls.length ≤ (flatL ls).length + 1
  | [], _ => by show 2 ^ 0 ≤ 0 + 1; decide
  | L :: ls, h => by
    rw [flatL_cons fun M hM => (h M hM).ok, nestL_len, List.length_cons, Nat.pow_succ, Nat.mul_comm]
    have h1 := nf_pow2 fun M hM => h M (List.mem_cons_of_mem _ hM)
    have h2 : 2 ≤ L.waits.length + 1 := (h L List.mem_cons_self).sz
    exact Nat.mul_le_mul h2 h1
theorem Fit.nf {Ls : List Lay} (h : Fit Ls) : attOf (nfL Ls) = attOf Ls ∧ (nfL Ls).length < 9000 ∧ ∀ L ∈ nfL Ls, 1 ≤ L.cnt ∧ L.cnt.natAbs < 2 ^ 9000 := by
  obtain ⟨n, e⟩ := nfL_ok h.ok
  have e1 := flatL_len _ (nfL Ls) rfl n.oks
  have e2 := flatL_len _ Ls rfl h.ok
  rw [e] at e1
  have ea : attOf (nfL Ls) = attOf Ls := by omega
  refine ⟨ea, ?_, fun L hL => ?_⟩
  · have h1 := nf_pow2 n.1
    rw [e] at h1
    have h4 : 2 ^ (nfL Ls).length < 2 ^ 9000 := by
      have := h.small
      generalize 2 ^ 9000 = B at *
      generalize 2 ^ (nfL Ls).length = C at *
      omega
    exact (Nat.pow_lt_pow_iff_right (by decide)).mp h4
  · have c1 := LayAt.con_pos (n.oks L hL)
    have c2 := cnt_le n.oks hL
    have := h.small
    rw [ea] at c2
    exact ⟨c1, Nat.lt_of_le_of_lt (by omega) this⟩
end Rn

set_option Elab.async false
set_option linter.all false
set_option maxRecDepth 100000
set_option maxHeartbeats 4000000
namespace Rn
open PySem PySem.Spec PyProof.Rows L2
/-! # normal forms put together and taken apart -/
/-- two lists of layers one after the other, the layers at the seam joined -/
def joinL (ps xs : List Lay) : List Lay :=
  match ps.getLast?, xs with
  | some (.con w n), .con v m :: r => if w = v then ps.dropLast ++ .con w (n * m) :: r else ps ++ xs
  | _, _ => ps ++ xs
def Seam (ps xs : List Lay) : Prop := ∃ A w n m B, ps = A ++ [Lay.con w n] ∧ xs = Lay.con w m :: B
theorem join_seam (A : List Lay) (w n m : Int) (B : List Lay) : joinL (A ++ [.con w n]) (.con w m :: B) = A ++ .con w (n * m) :: B := by
  unfold joinL
  rw [List.getLast?_append, List.getLast?_singleton, Option.some_or]
  show (if w = w then _ else _) = _
  rw [if_pos rfl, List.dropLast_concat]
theorem join_plain {ps xs : List Lay} (h : ¬ Seam ps xs) : joinL ps xs = ps ++ xs := by
  rcases List.eq_nil_or_concat ps with e | ⟨A, p, e⟩
  · subst e
    rfl
  · rw [List.concat_eq_append] at e
    subst e
    unfold joinL
    rw [List.getLast?_append, List.getLast?_singleton, Option.some_or]
    cases p with
    | pol ns => rfl
    | con w n =>
      cases xs with
      | nil => rfl
      | cons x r =>
        cases x with
        | pol ms => rfl
        | con v m =>
          show (if w = v then _ else _) = _
          rw [if_neg fun z => h ⟨A, w, n, m, r, rfl, by rw [z]⟩]
theorem join_or (ps xs : List Lay) : (∃ A w n m B, ps = A ++ [Lay.con w n] ∧ xs = Lay.con w m :: B ∧ joinL ps xs = A ++ .con w (n * m) :: B) ∨ (¬ Seam ps xs ∧ joinL ps xs = ps ++ xs) := by
  by_cases h : Seam ps xs
  · obtain ⟨A, w, n, m, B, rfl, rfl⟩ := h
    exact .inl ⟨A, w, n, m, B, rfl, rfl, join_seam A w n m B⟩
  · exact .inr ⟨h, join_plain h⟩
theorem join_nil (ps : List Lay) : joinL ps [] = ps := by
  rw [join_plain, List.append_nil]
  rintro ⟨A, w, n, m, B, _, e⟩
  cases e
theorem nil_join (xs : List Lay) : joinL [] xs = xs := rfl
/-! parts of a normal form -/
theorem NF.app {As Bs : List Lay} (h : NF (As ++ Bs)) : NF As ∧ NF Bs ∧ ¬ Seam As Bs := by
  refine ⟨⟨fun L hL => h.1 L (List.mem_append_left _ hL), fun i w n w' m a b => ?_⟩, ⟨fun L hL => h.1 L (List.mem_append_right _ hL), fun i w n w' m a b => ?_⟩, ?_⟩
  · have h1 := (List.getElem?_eq_some_iff.mp a).1
    have h2 := (List.getElem?_eq_some_iff.mp b).1
    exact h.2 i w n w' m (by rw [List.getElem?_append_left h1]; exact a) (by rw [List.getElem?_append_left h2]; exact b)
  · refine h.2 (As.length + i) w n w' m ?_ ?_
    · rw [List.getElem?_append_right (by omega), Nat.add_sub_cancel_left]
      exact a
    · rw [show As.length + i + 1 = As.length + (i + 1) by omega, List.getElem?_append_right (by omega), Nat.add_sub_cancel_left]
      exact b
  · rintro ⟨A, w, n, m, B, rfl, rfl⟩
    refine h.2 A.length w n w m ?_ ?_ rfl
    · rw [List.append_assoc, List.getElem?_append_right (Nat.le_refl _), Nat.sub_self]
      rfl
    · rw [List.append_assoc, List.getElem?_append_right (by omega), show A.length + 1 - A.length = 1 by omega]
      rfl
theorem nf_app {As Bs : List Lay} (ha : NF As) (hb : NF Bs) (h : ¬ Seam As Bs) : NF (As ++ Bs) := by
  refine ⟨fun L hL => ?_, fun i w n w' m a b => ?_⟩
  · rcases List.mem_append.mp hL with z | z
    · exact ha.1 L z
    · exact hb.1 L z
  · by_cases h1 : i + 1 < As.length
    · rw [List.getElem?_append_left (by omega)] at a
      rw [List.getElem?_append_left h1] at b
      exact ha.2 i w n w' m a b
    · by_cases h2 : i < As.length
      · intro e
        subst e
        rw [List.getElem?_append_left h2] at a
        rw [List.getElem?_append_right (by omega), show i + 1 - As.length = 0 by omega] at b
        apply h
        cases Bs with
        | nil => cases b
        | cons x r =>
          have eb : x = .con w m := Option.some.inj b
          subst eb
          have hne : As ≠ [] := fun z => by rw [z] at h2; cases h2
          refine ⟨As.dropLast, w, n, m, r, ?_, rfl⟩
          have h3 := (List.dropLast_concat_getLast hne).symm
          have h4 : As.getLast hne = .con w n := by
            have h5 : As[As.length - 1]? = some (As.getLast hne) := by rw [← List.getLast?_eq_getElem?, List.getLast?_eq_some_getLast hne]
            rw [show As.length - 1 = i by omega, a] at h5
            exact (Option.some.inj h5).symm
          rw [h4] at h3
          exact h3
      · rw [List.getElem?_append_right (by omega)] at a b
        rw [show i + 1 - As.length = (i - As.length) + 1 by omega] at b
        exact hb.2 _ w n w' m a b
theorem NF.rev {ls : List Lay} (h : NF ls) : NF ls.reverse := by
  refine ⟨fun L hL => h.1 L (List.mem_reverse.mp hL), fun i w n w' m a b e => ?_⟩
  have h2 := (List.getElem?_eq_some_iff.mp b).1
  rw [List.length_reverse] at h2
  rw [List.getElem?_reverse (by omega)] at a
  rw [List.getElem?_reverse (by omega)] at b
  exact h.2 (ls.length - 1 - (i + 1)) w' m w n b (by rw [show ls.length - 1 - (i + 1) + 1 = ls.length - 1 - i by omega]; exact a) e.symm
theorem nf_one {L : Lay} (h : L.nf) : NF [L] := ⟨fun M hM => by rw [List.mem_singleton.mp hM]; exact h, fun i w n w' m a b => by cases b⟩
theorem nf_nil : NF [] := ⟨(fun _ z => nomatch z), fun i w n w' m a => by cases a⟩
/-! the join of normal forms -/
theorem join_ok {ps xs : List Lay} (hp : NF ps) (hx : NF xs) : NF (joinL ps xs) ∧ flatL (joinL ps xs) = nestL (flatL ps) (flatL xs) := by
  rcases join_or ps xs with ⟨A, w, n, m, B, rfl, rfl, e⟩ | ⟨h, e⟩
  · rw [e]
    have hn := hp.1 (.con w n) (List.mem_append_right _ List.mem_cons_self)
    have hm := hx.1 (.con w m) List.mem_cons_self
    have n2 : 2 ≤ n := hn.2
    have m2 : 2 ≤ m := hm.2
    have nm : 2 * 2 ≤ n * m := Int.mul_le_mul n2 m2 (by decide) (by omega)
    have g : (Lay.con w (n * m)).nf := ⟨hn.1, by omega⟩
    obtain ⟨hA, _, sA⟩ := hp.app
    have hB : NF ([.con w m] ++ B) := hx
    obtain ⟨_, hB1, sB⟩ := hB.app
    have s1 : ¬ Seam [Lay.con w (n * m)] B := fun ⟨A', w', n', m', B', e1, e2⟩ => by
      have := (List.append_inj' (s₁ := []) e1 rfl).2
      cases this
      exact sB ⟨[], w, m, m', B', rfl, e2⟩
    have t1 : NF (.con w (n * m) :: B) := nf_app (nf_one g) hB1 s1
    have s2 : ¬ Seam A (.con w (n * m) :: B) := fun ⟨A', w', n', m', B', e1, e2⟩ => by
      cases e2
      exact sA ⟨A', w, n', n, [], e1, rfl⟩
    refine ⟨nf_app hA t1 s2, ?_⟩
    rw [flat_app hA.oks t1.oks, flatL_cons t1.oks, flat_app hA.oks (fun L hL => hp.oks L (List.mem_append_right _ hL)), flatL_cons hx.oks, nestL_assoc, ← nestL_assoc (flatL [.con w n])]
    congr 2
    rw [flatL_cons fun L hL => by rw [List.mem_singleton.mp hL]; exact hn.ok]
    show List.replicate (n * m - 1).toNat w = nestL (nestL (List.replicate (n - 1).toNat w) []) (List.replicate (m - 1).toNat w)
    rw [nestL_nil, nest_rep, show (n - 1).toNat + 1 = n.toNat by omega, show (m - 1).toNat + 1 = m.toNat by omega, ← Int.toNat_mul (by omega) (by omega)]
    congr 1
    omega
  · rw [e]
    have t := nf_app hp hx h
    exact ⟨t, flat_app hp.oks hx.oks⟩
theorem join_of {ls ps xs : List Lay} (hl : NF ls) (hp : NF ps) (hx : NF xs) (e : nestL (flatL ps) (flatL xs) = flatL ls) : joinL ps xs = ls := by
  obtain ⟨a, b⟩ := join_ok hp hx
  exact nf_unique a hl (b.trans e)
theorem join_assoc {ps xs ys : List Lay} (hp : NF ps) (hx : NF xs) (hy : NF ys) : joinL (joinL ps xs) ys = joinL ps (joinL xs ys) := by
  obtain ⟨a1, a2⟩ := join_ok hp hx
  obtain ⟨b1, b2⟩ := join_ok a1 hy
  obtain ⟨c1, c2⟩ := join_ok hx hy
  obtain ⟨d1, d2⟩ := join_ok hp c1
  exact nf_unique b1 d1 (by rw [b2, d2, a2, c2, nestL_assoc])
theorem merge_join {ps xs : List Lay} (hp : NF ps) (hx : NF xs) : mergeL (ps ++ xs) = joinL ps xs := by
  obtain ⟨a1, a2⟩ := join_ok hp hx
  obtain ⟨b1, b2⟩ := merge_ok (ls := ps ++ xs) fun L hL => (List.mem_append.mp hL).elim (hp.1 L) (hx.1 L)
  exact nf_unique b1 a1 (by rw [b2, a2, flat_app hp.oks hx.oks])
theorem merge_nf {ls : List Lay} (h : NF ls) : mergeL ls = ls := by
  obtain ⟨b1, b2⟩ := merge_ok h.1
  exact nf_unique b1 h b2
theorem seam_rev {ps xs : List Lay} : Seam xs.reverse ps.reverse ↔ Seam ps xs := by
  constructor
  · rintro ⟨A, w, n, m, B, e1, e2⟩
    refine ⟨B.reverse, w, m, n, A.reverse, ?_, ?_⟩
    · have := congrArg List.reverse e2
      rw [List.reverse_reverse, List.reverse_cons] at this
      exact this
    · have := congrArg List.reverse e1
      rw [List.reverse_reverse, List.reverse_append] at this
      exact this
  · rintro ⟨A, w, n, m, B, rfl, rfl⟩
    exact ⟨B.reverse, w, m, n, A.reverse, by rw [List.reverse_cons], by rw [List.reverse_append]; rfl⟩
theorem join_rev (ps xs : List Lay) : (joinL ps xs).reverse = joinL xs.reverse ps.reverse := by
  rcases join_or ps xs with ⟨A, w, n, m, B, rfl, rfl, e⟩ | ⟨h, e⟩
  · rw [e, List.reverse_append, List.reverse_cons, List.reverse_cons, List.reverse_append]
    have := join_seam B.reverse w m n A.reverse
    show _ = joinL (B.reverse ++ [.con w m]) ([Lay.con w n].reverse ++ A.reverse)
    rw [show [Lay.con w n].reverse ++ A.reverse = .con w n :: A.reverse from rfl, this, Int.mul_comm m n, List.append_assoc]
    rfl
  · rw [e, join_plain fun z => h (seam_rev.mp z), List.reverse_append]
/-! ## what is left of a normal form without its first part -/
/-- of one layer -/
def woL (l p : Lay) : Option (List Lay) :=
  if layB l p = true then some [] else match l, p with
    | .con w n, .con v m => if w = v ∧ n % m = 0 then some [.con w (n / m)] else none
    | _, _ => none
def woS (ls ps : List Lay) : Option (List Lay) :=
  if ps = [] then some ls
  else match ls[ps.length - 1]?, ps[ps.length - 1]? with
    | some l, some p => if laysB (ls.take (ps.length - 1)) (ps.take (ps.length - 1)) = true then (woL l p).map fun left => left ++ ls.drop ps.length else none
    | _, _ => none
theorem layB_refl (L : Lay) : layB L L = true := layB_iff.mpr rfl
theorem laysB_refl (Ls : List Lay) : laysB Ls Ls = true := laysB_iff.mpr rfl
theorem woS_snoc (A : List Lay) (p l : Lay) (B : List Lay) : woS (A ++ l :: B) (A ++ [p]) = (woL l p).map fun left => left ++ B := by
  unfold woS
  rw [if_neg (by simp), List.length_append, List.length_singleton, Nat.add_sub_cancel]
  rw [List.getElem?_append_right (Nat.le_refl _), Nat.sub_self, List.getElem?_append_right (Nat.le_refl _), Nat.sub_self]
  show (if laysB ((A ++ l :: B).take A.length) ((A ++ [p]).take A.length) = true then _ else _) = _
  rw [List.take_left, List.take_left, if_pos (laysB_refl A)]
  congr 1
  funext left
  congr 1
  rw [List.drop_append, List.drop_of_length_le (by omega), show A.length + 1 - A.length = 1 by omega]
  rfl
/-- what was joined comes apart -/
theorem woS_join {ps xs : List Lay} (hp : NF ps) (hx : NF xs) : woS (joinL ps xs) ps = some xs := by
  rcases join_or ps xs with ⟨A, w, n, m, B, rfl, rfl, e⟩ | ⟨h, e⟩
  · rw [e, woS_snoc]
    have n2 : 2 ≤ n := (hp.1 (.con w n) (List.mem_append_right _ List.mem_cons_self)).2
    have m2 : 2 ≤ m := (hx.1 (.con w m) List.mem_cons_self).2
    unfold woL
    rw [if_neg fun z => ?_]
    · show Option.map _ (if w = w ∧ n * m % n = 0 then some [Lay.con w (n * m / n)] else none) = _
      rw [if_pos ⟨rfl, Int.mul_emod_right n m⟩, Int.mul_ediv_cancel_left m (by omega)]
      rfl
    · have := layB_iff.mp z
      injection this with _ this
      have h3 : n * 2 ≤ n * m := Int.mul_le_mul_of_nonneg_left m2 (by omega)
      omega
  · rw [e]
    rcases List.eq_nil_or_concat ps with e2 | ⟨A, p, e2⟩
    · subst e2
      rfl
    · rw [List.concat_eq_append] at e2
      subst e2
      rw [List.append_assoc]
      show woS (A ++ p :: xs) (A ++ [p]) = _
      rw [woS_snoc]
      unfold woL
      rw [if_pos (layB_refl p)]
      rfl
/-- what is taken apart was joined -/
theorem woS_some {ls ps xs : List Lay} (hl : NF ls) (hp : NF ps) (h : woS ls ps = some xs) : NF xs ∧ joinL ps xs = ls := by
  rcases List.eq_nil_or_concat ps with e2 | ⟨A, p, e2⟩
  · subst e2
    have : some ls = some xs := h
    cases this
    exact ⟨hl, rfl⟩
  · rw [List.concat_eq_append] at e2
    subst e2
    have hlen : (A ++ [p]).length - 1 = A.length := by rw [List.length_append, List.length_singleton]; omega
    cases el : ls[A.length]? with
    | none =>
      unfold woS at h
      rw [if_neg (by simp), hlen, el] at h
      cases h
    | some l =>
      have hA : A.length < ls.length := (List.getElem?_eq_some_iff.mp el).1
      have e0 : ls = ls.take A.length ++ l :: ls.drop (A.length + 1) := by
        have h1 := (List.take_append_drop A.length ls).symm
        rw [List.drop_eq_getElem_cons hA] at h1
        have h2 := (List.getElem?_eq_some_iff.mp el).2
        rw [h2] at h1
        exact h1
      have hh := h
      unfold woS at hh
      rw [if_neg (by simp), hlen, el, List.getElem?_append_right (Nat.le_refl _), Nat.sub_self] at hh
      have hh : (if laysB (ls.take A.length) ((A ++ [p]).take A.length) = true then _ else _) = some xs := hh
      rw [List.take_left] at hh
      by_cases eA : ls.take A.length = A
      · rw [eA] at e0
        rw [e0, woS_snoc] at h
        rw [e0] at hl ⊢
        generalize ls.drop (A.length + 1) = B at *
        obtain ⟨nA, nlB, sA⟩ := hl.app
        have nlB' : NF ([l] ++ B) := nlB
        obtain ⟨nl, nB, sB⟩ := nlB'.app
        cases hw : woL l p with
        | none => rw [hw] at h; cases h
        | some left =>
          rw [hw] at h
          have ex : left ++ B = xs := Option.some.inj h
          subst ex
          unfold woL at hw
          by_cases c : layB l p = true
          · rw [if_pos c] at hw
            cases hw
            have := layB_iff.mp c
            subst this
            refine ⟨nB, ?_⟩
            show joinL (A ++ [l]) B = A ++ l :: B
            rw [join_plain, List.append_assoc]
            · rfl
            · rintro ⟨A', w, n, m, B', e1, e2⟩
              obtain ⟨q1, q2⟩ := List.append_inj' e1 rfl
              cases q2
              exact sB ⟨[], w, n, m, B', rfl, e2⟩
          · rw [if_neg c] at hw
            cases l with
            | pol ns => cases p <;> cases hw
            | con w n =>
              cases p with
              | pol ms => cases hw
              | con v m =>
                have hw : (if w = v ∧ n % m = 0 then some [Lay.con w (n / m)] else none) = some left := hw
                by_cases cc : w = v ∧ n % m = 0
                · rw [if_pos cc] at hw
                  cases hw
                  obtain ⟨rfl, cd⟩ := cc
                  have hn := nl.1 _ List.mem_cons_self
                  have hm := hp.1 (.con w m) (List.mem_append_right _ List.mem_cons_self)
                  have n2 : 2 ≤ n := hn.2
                  have m2 : 2 ≤ m := hm.2
                  have em : m * (n / m) = n := Int.mul_ediv_cancel' (Int.dvd_of_emod_eq_zero cd)
                  have nm : n ≠ m := fun z => c (layB_iff.mpr (by rw [z]))
                  have q2 : 2 ≤ n / m := by
                    rcases Int.lt_or_le (n / m) 2 with z | z
                    · exfalso
                      have : n / m ≤ 0 ∨ n / m = 1 := by omega
                      rcases this with y | y
                      · have : m * (n / m) ≤ m * 0 := Int.mul_le_mul_of_nonneg_left y (by omega)
                        omega
                      · rw [y, Int.mul_one] at em
                        exact nm em.symm
                    · exact z
                  have sq : ¬ Seam [Lay.con w (n / m)] B := fun ⟨A', w', n', m', B', e1, e2⟩ => by
                    have := (List.append_inj' (s₁ := []) e1 rfl).2
                    cases this
                    exact sB ⟨[], w, n, m', B', rfl, e2⟩
                  refine ⟨nf_app (nf_one ⟨hn.1, q2⟩) nB sq, ?_⟩
                  show joinL (A ++ [.con w m]) (.con w (n / m) :: B) = _
                  rw [join_seam, em]
                · rw [if_neg cc] at hw
                  cases hw
      · rw [if_neg fun z => eA (laysB_iff.mp z)] at hh
        cases hh
/-! ## lists of layers cut and put together -/
/-- the layers us of Ls, at any place -/
def Lays (G : Hp) (us : List V) (Ls : List Lay) : Prop := us.length = Ls.length ∧ ∀ (i : Nat) v L, us[i]? = some v → Ls[i]? = some L → LayAt G v L
theorem NestV.lays {H0 G : Hp} {p : Addr} {us : List V} {Ls : List Lay} (h : NestV H0 G p us Ls) : Lays G us Ls := ⟨h.2.1, h.2.2.1⟩
theorem Lays.same {G G' : Hp} {us : List V} {Ls : List Lay} (h : Lays G us Ls) (e : Same G G') : Lays G' us Ls := ⟨h.1, fun i v L a b => (h.2 i v L a b).same e⟩
theorem Lays.nest {G : Hp} {p : Addr} {us : List V} {Ls : List Lay} (h : Lays G us Ls) (hp : G p = some (.lst us)) : NestAt G p Ls := ⟨us, hp, h.1, h.2⟩
theorem Lays.take {G : Hp} {us : List V} {Ls : List Lay} (h : Lays G us Ls) (n : Nat) : Lays G (us.take n) (Ls.take n) := by
  refine ⟨by rw [List.length_take, List.length_take, h.1], fun i v L a b => ?_⟩
  rw [List.getElem?_take] at a b
  by_cases c : i < n
  · rw [if_pos c] at a b
    exact h.2 i v L a b
  · rw [if_neg c] at a
    cases a
theorem Lays.drop {G : Hp} {us : List V} {Ls : List Lay} (h : Lays G us Ls) (n : Nat) : Lays G (us.drop n) (Ls.drop n) := by
  refine ⟨by rw [List.length_drop, List.length_drop, h.1], fun i v L a b => ?_⟩
  rw [List.getElem?_drop] at a b
  exact h.2 _ v L a b
theorem Lays.rev {G : Hp} {us : List V} {Ls : List Lay} (h : Lays G us Ls) : Lays G us.reverse Ls.reverse := by
  refine ⟨by rw [List.length_reverse, List.length_reverse, h.1], fun i v L a b => ?_⟩
  have h1 := (List.getElem?_eq_some_iff.mp a).1
  have h2 := (List.getElem?_eq_some_iff.mp b).1
  rw [List.length_reverse] at h1 h2
  rw [List.getElem?_reverse h1] at a
  rw [List.getElem?_reverse h2] at b
  rw [h.1] at a
  exact h.2 _ v L a b
theorem Lays.app {G : Hp} {us vs : List V} {Ls Ms : List Lay} (h : Lays G us Ls) (h2 : Lays G vs Ms) : Lays G (us ++ vs) (Ls ++ Ms) := by
  refine ⟨by rw [List.length_append, List.length_append, h.1, h2.1], fun i v L a b => ?_⟩
  by_cases c : i < us.length
  · rw [List.getElem?_append_left c] at a
    rw [List.getElem?_append_left (by rw [← h.1]; exact c)] at b
    exact h.2 i v L a b
  · rw [List.getElem?_append_right (by omega)] at a
    rw [List.getElem?_append_right (by rw [← h.1]; omega), ← h.1] at b
    exact h2.2 _ v L a b
theorem Lays.get {G : Hp} {us : List V} {Ls : List Lay} (h : Lays G us Ls) {i : Nat} {L : Lay} (hi : Ls[i]? = some L) : ∃ v, us[i]? = some v ∧ LayAt G v L := by
  have h1 := (List.getElem?_eq_some_iff.mp hi).1
  rw [← h.1] at h1
  exact ⟨us[i], List.getElem?_eq_getElem h1, h.2 i _ L (List.getElem?_eq_getElem h1) hi⟩
theorem Lays.ref {G : Hp} {us : List V} {Ls : List Lay} (h : Lays G us Ls) {v : V} (hv : v ∈ us) : ∃ x o, v = .ref x ∧ G x = some o := by
  obtain ⟨i, hi, e⟩ := List.getElem_of_mem hv
  have h1 : i < Ls.length := by rw [← h.1]; exact hi
  have := h.2 i v Ls[i] (by rw [List.getElem?_eq_getElem hi, e]) (List.getElem?_eq_getElem h1)
  generalize Ls[i] = L at this
  cases L with
  | pol ns => obtain ⟨x, e1, e2⟩ := this; exact ⟨x, _, e1, e2⟩
  | con w n => obtain ⟨x, e1, e2⟩ := this; exact ⟨x, _, e1, e2⟩
/-- elements that are new since H0 -/
def New0 (H0 : Hp) (us : List V) : Prop := ∀ x, V.ref x ∈ us → H0 x = none
theorem NestV.new0 {H0 G : Hp} {p : Addr} {us : List V} {Ls : List Lay} (h : NestV H0 G p us Ls) : New0 H0 us := fun x hx => (h.2.2.2 x hx).2
/-- a list of such layers at a new place -/
theorem nestV_new {H0 G : Hp} {r : Addr} {us : List V} {Ls : List Lay} (h : Lays G us Ls) (n : New0 H0 us) (hr : G r = none) : NestV H0 (upd G r (.lst us)) r us Ls := by
  refine ⟨upd_same, h.1, fun i v L a b => ?_, fun x hx => ⟨fun z => ?_, n x hx⟩⟩
  · exact (h.2 i v L a b).same (same_new hr)
  · obtain ⟨y, o, e1, e2⟩ := h.ref hx
    cases e1
    rw [z, hr] at e2
    cases e2
theorem New0.sub {H0 : Hp} {us vs : List V} (h : New0 H0 us) (e : ∀ v ∈ vs, v ∈ us) : New0 H0 vs := fun x hx => h x (e _ hx)
theorem New0.app {H0 : Hp} {us vs : List V} (h : New0 H0 us) (h2 : New0 H0 vs) : New0 H0 (us ++ vs) := fun x hx => (List.mem_append.mp hx).elim (h x) (h2 x)
/-- what is new since H and what stood in H have nothing in common -/
theorem nodup_new {G : Hp} {us vs : List V} {Ls : List Lay} (h : Lays G vs Ls) (n : New0 G us) (hu : us.Nodup) (hv : vs.Nodup) : (us ++ vs).Nodup := by
  rw [List.nodup_append]
  refine ⟨hu, hv, fun x hx y hy e => ?_⟩
  subst e
  obtain ⟨z, o, e1, e2⟩ := h.ref hy
  subst e1
  rw [n z hx] at e2
  cases e2
/-! ## the common inner part -/
def gcdZ (n m : Int) : Int := ((Nat.gcd n.natAbs m.natAbs : Nat) : Int)
theorem gcdZ_comm (n m : Int) : gcdZ n m = gcdZ m n := by unfold gcdZ; rw [Nat.gcd_comm]
theorem gcdZ_dvd {n m : Int} (h : 2 ≤ n) : gcdZ n m ∣ n ∧ gcdZ n m ∣ m ∧ 1 ≤ gcdZ n m := by
  unfold gcdZ
  refine ⟨Int.natAbs_dvd_natAbs.mp (by rw [Int.natAbs_natCast]; exact Nat.gcd_dvd_left _ _), Int.natAbs_dvd_natAbs.mp (by rw [Int.natAbs_natCast]; exact Nat.gcd_dvd_right _ _), ?_⟩
  have := Nat.gcd_pos_of_pos_left m.natAbs (show 0 < n.natAbs by omega)
  omega
def ciO (L M : Lay) : List Lay :=
  if layB L M = true then [L] else match L, M with
    | .con w n, .con v m => if w = v ∧ 1 < gcdZ n m then [.con w (gcdZ n m)] else []
    | _, _ => []
def ciL : List Lay → List Lay → List Lay
  | l :: ls, m :: ms => if layB l m = true then l :: ciL ls ms else ciO l m
  | _, _ => []
theorem ciL_nil_r (ls : List Lay) : ciL ls [] = [] := by cases ls <;> rfl
theorem layB_comm (L M : Lay) : layB L M = layB M L := by
  rw [Bool.eq_iff_iff, layB_iff, layB_iff]
  exact ⟨Eq.symm, Eq.symm⟩
theorem ciO_comm (L M : Lay) : ciO L M = ciO M L := by
  unfold ciO
  by_cases c : layB L M = true
  · have e := layB_iff.mp c
    subst e
    rfl
  · rw [if_neg c, if_neg (by rw [layB_comm]; exact c)]
    cases L with
    | pol ns => cases M <;> rfl
    | con w n =>
      cases M with
      | pol ms => rfl
      | con v m =>
        show (if w = v ∧ 1 < gcdZ n m then [Lay.con w (gcdZ n m)] else []) = if v = w ∧ 1 < gcdZ m n then [Lay.con v (gcdZ m n)] else []
        rw [gcdZ_comm m n]
        by_cases e : w = v
        · subst e
          rfl
        · rw [if_neg fun z => e z.1, if_neg fun z => e z.1.symm]
theorem ciL_comm : ∀ ls ms : List Lay, ciL ls ms = ciL ms ls
  | [], ms => by cases ms <;> rfl
  | l :: ls, [] => rfl
  | l :: ls, m :: ms => by
    unfold ciL
    by_cases c : layB l m = true
    · have e := layB_iff.mp c
      subst e
      rw [if_pos c, if_pos c, ciL_comm ls ms]
    · rw [if_neg c, if_neg (by rw [layB_comm]; exact c), ciO_comm]
theorem join_cons {l : Lay} {c xs : List Lay} (h : c ≠ []) : joinL (l :: c) xs = l :: joinL c xs := by
  rcases join_or c xs with ⟨A, w, n, m, B, rfl, rfl, e⟩ | ⟨hs, e⟩
  · rw [e]
    exact join_seam (l :: A) w n m B
  · rw [e, join_plain]
    · rfl
    · rintro ⟨A, w, n, m, B, e1, e2⟩
      cases A with
      | nil =>
        injection e1 with _ e1
        exact h e1
      | cons a A =>
        injection e1 with _ e1
        exact hs ⟨A, w, n, m, B, e1, e2⟩
theorem join_one {l : Lay} {xs : List Lay} (h : NF (l :: xs)) : joinL [l] xs = l :: xs := by
  have h' : NF ([l] ++ xs) := h
  rw [join_plain h'.app.2.2]
  rfl
theorem con_split {w n g : Int} {r : List Lay} (h : NF (.con w n :: r)) (hg : g ∣ n) (g2 : 2 ≤ g) : ∃ xs, NF xs ∧ joinL [.con w g] xs = .con w n :: r := by
  obtain ⟨q, rfl⟩ := hg
  have hn := h.1 _ List.mem_cons_self
  have n2 : 2 ≤ g * q := hn.2
  have q1 : 1 ≤ q := by
    rcases Int.lt_or_le q 1 with z | z
    · have : g * q ≤ g * 0 := Int.mul_le_mul_of_nonneg_left (by omega) (by omega)
      omega
    · exact z
  have h' : NF ([.con w (g * q)] ++ r) := h
  obtain ⟨_, nr, sr⟩ := h'.app
  by_cases e : q = 1
  · subst e
    rw [Int.mul_one] at h ⊢
    exact ⟨r, nr, join_one h⟩
  · have sq : ¬ Seam [Lay.con w q] r := fun ⟨A', w', n', m', B', e1, e2⟩ => by
      have := (List.append_inj' (s₁ := []) e1 rfl).2
      cases this
      exact sr ⟨[], w, g * q, m', B', rfl, e2⟩
    exact ⟨.con w q :: r, nf_app (nf_one (L := .con w q) ⟨hn.1, by omega⟩) nr sq, join_seam [] w g q r⟩
theorem ciO_cases {L M : Lay} (h : layB L M ≠ true) : ciO L M = [] ∨ ∃ w n m, L = .con w n ∧ M = .con w m ∧ 1 < gcdZ n m ∧ ciO L M = [.con w (gcdZ n m)] := by
  unfold ciO
  rw [if_neg h]
  cases L with
  | pol ns => cases M <;> exact .inl rfl
  | con w n =>
    cases M with
    | pol ms => exact .inl rfl
    | con v m =>
      show (if w = v ∧ 1 < gcdZ n m then [Lay.con w (gcdZ n m)] else []) = [] ∨ _
      by_cases c : w = v ∧ 1 < gcdZ n m
      · obtain ⟨rfl, c2⟩ := c
        exact .inr ⟨w, n, m, rfl, rfl, c2, if_pos ⟨rfl, c2⟩⟩
      · exact .inl (if_neg c)
/-- the head of the common part is as the head of the first -/
theorem ciL_seam {l : Lay} : ∀ {ls ms : List Lay}, Seam [l] (ciL ls ms) → Seam [l] ls
  | [], ms, h => by
    have : ciL [] ms = [] := by cases ms <;> rfl
    rw [this] at h
    exact h
  | x :: ls, [], h => by
    obtain ⟨A, w, n, m, B, e1, e2⟩ := h
    cases e2
  | x :: ls, y :: ms, h => by
    obtain ⟨A, w, n, m, B, e1, e2⟩ := h
    unfold ciL at e2
    by_cases c : layB x y = true
    · rw [if_pos c] at e2
      injection e2 with e2 _
      exact ⟨A, w, n, m, ls, e1, by rw [e2]⟩
    · rw [if_neg c] at e2
      rcases ciO_cases c with z | ⟨w', n', m', rfl, rfl, _, z⟩
      · rw [z] at e2; cases e2
      · rw [z] at e2
        cases e2
        exact ⟨A, _, _, _, ls, e1, rfl⟩
theorem ciL_nf : ∀ {ls ms : List Lay}, NF ls → NF (ciL ls ms)
  | [], ms, _ => by
    have : ciL [] ms = [] := by cases ms <;> rfl
    rw [this]
    exact nf_nil
  | x :: ls, [], _ => nf_nil
  | x :: ls, y :: ms, h => by
    have h' : NF ([x] ++ ls) := h
    obtain ⟨nx, nl, sx⟩ := h'.app
    unfold ciL
    by_cases c : layB x y = true
    · rw [if_pos c]
      exact nf_app nx (ciL_nf nl) fun z => sx (ciL_seam z)
    · rw [if_neg c]
      rcases ciO_cases c with z | ⟨w, n, m, rfl, rfl, g, z⟩
      · rw [z]
        exact nf_nil
      · rw [z]
        exact nf_one ⟨(h.1 _ List.mem_cons_self).1, g⟩
/-- the common part is a part of the first -/
theorem ciL_div : ∀ {ls ms : List Lay}, NF ls → ∃ xs, NF xs ∧ joinL (ciL ls ms) xs = ls
  | [], ms, h => ⟨[], nf_nil, by
    have : ciL [] ms = [] := by cases ms <;> rfl
    rw [this]
    rfl⟩
  | x :: ls, [], h => ⟨x :: ls, h, rfl⟩
  | x :: ls, y :: ms, h => by
    have h' : NF ([x] ++ ls) := h
    obtain ⟨nx, nl, sx⟩ := h'.app
    unfold ciL
    by_cases c : layB x y = true
    · rw [if_pos c]
      obtain ⟨xs, n1, e1⟩ := ciL_div (ms := ms) nl
      refine ⟨xs, n1, ?_⟩
      by_cases z : ciL ls ms = []
      · rw [z] at e1 ⊢
        have e2 : xs = ls := e1
        subst e2
        exact join_one h
      · rw [join_cons z, e1]
    · rw [if_neg c]
      rcases ciO_cases c with z | ⟨w, n, m, rfl, rfl, g, z⟩
      · rw [z]
        exact ⟨_, h, rfl⟩
      · rw [z]
        have n2 := (h.1 _ List.mem_cons_self).2
        exact con_split h (gcdZ_dvd n2).1 g
theorem ciL_cons_same (l : Lay) (ls ms : List Lay) : ciL (l :: ls) (l :: ms) = l :: ciL ls ms := by
  show (if layB l l = true then _ else _) = _
  rw [if_pos (layB_refl l)]
/-- every common part is a part of it -/
theorem ciL_max : ∀ {ps xs ys : List Lay}, NF ps → NF xs → NF ys → ∃ zs, NF zs ∧ joinL ps zs = ciL (joinL ps xs) (joinL ps ys)
  | [], xs, ys, _, hx, hy => ⟨ciL xs ys, ciL_nf hx, rfl⟩
  | [p], xs, ys, hp, hx, hy => by
    have npx := (join_ok hp hx).1
    have npy := (join_ok hp hy).1
    rcases join_or [p] xs with ⟨A, w, n, m1, B, e1, rfl, ex⟩ | ⟨sx, ex⟩
    · have e1' := List.append_inj' (s₁ := []) e1 rfl
      obtain ⟨rfl, e1''⟩ := e1'
      cases e1''
      have ex : joinL [.con w n] (.con w m1 :: B) = .con w (n * m1) :: B := ex
      have n2 : 2 ≤ n := (hp.1 _ List.mem_cons_self).2
      have w0 : 0 ≤ w := (hp.1 _ List.mem_cons_self).1
      have m12 : 2 ≤ m1 := (hx.1 _ List.mem_cons_self).2
      rw [ex] at npx ⊢
      rcases join_or [.con w n] ys with ⟨A, w', n', m2, B', e1, rfl, ey⟩ | ⟨sy, ey⟩
      · have e1' := List.append_inj' (s₁ := []) e1 rfl
        obtain ⟨rfl, e1''⟩ := e1'
        cases e1''
        have ey : joinL [.con w n] (.con w m2 :: B') = .con w (n * m2) :: B' := ey
        have m22 : 2 ≤ m2 := (hy.1 _ List.mem_cons_self).2
        rw [ey] at npy ⊢
        by_cases em : m1 = m2
        · subst em
          rw [ciL_cons_same]
          have nB := ciL_nf (ms := B') (show NF B from hx.tail)
          have hx' : NF ([.con w m1] ++ B) := hx
          have sq : ¬ Seam [Lay.con w m1] (ciL B B') := fun z => hx'.app.2.2 (ciL_seam z)
          exact ⟨.con w m1 :: ciL B B', nf_app (nf_one (L := .con w m1) ⟨w0, m12⟩) nB sq, join_seam [] w n m1 _⟩
        · have ne : layB (.con w (n * m1)) (.con w (n * m2)) ≠ true := fun z => by
            have := layB_iff.mp z
            injection this with _ this
            exact em (Int.eq_of_mul_eq_mul_left (by omega) this)
          have eg : gcdZ (n * m1) (n * m2) = n * gcdZ m1 m2 := by
            unfold gcdZ
            rw [Int.natAbs_mul, Int.natAbs_mul, Nat.gcd_mul_left, Int.natCast_mul]
            congr 1
            omega
          obtain ⟨_, _, g1⟩ := gcdZ_dvd (n := m1) (m := m2) m12
          have gb : n * 1 ≤ n * gcdZ m1 m2 := Int.mul_le_mul_of_nonneg_left g1 (by omega)
          have ec : ciL (.con w (n * m1) :: B) (.con w (n * m2) :: B') = [.con w (n * gcdZ m1 m2)] := by
            show (if layB _ _ = true then _ else _) = _
            rw [if_neg ne]
            unfold ciO
            rw [if_neg ne]
            show (if w = w ∧ 1 < gcdZ (n * m1) (n * m2) then [Lay.con w (gcdZ (n * m1) (n * m2))] else []) = _
            rw [eg, if_pos ⟨rfl, by omega⟩]
          rw [ec]
          by_cases e1 : gcdZ m1 m2 = 1
          · rw [e1, Int.mul_one]
            exact ⟨[], nf_nil, join_nil _⟩
          · exact ⟨[.con w (gcdZ m1 m2)], nf_one ⟨w0, by omega⟩, join_seam [] w n _ []⟩
      · rw [ey] at npy ⊢
        have ne : layB (.con w (n * m1)) (.con w n) ≠ true := fun z => by
          have := layB_iff.mp z
          injection this with _ this
          have h3 : n * 2 ≤ n * m1 := Int.mul_le_mul_of_nonneg_left m12 (by omega)
          omega
        have eg : gcdZ (n * m1) n = n := by
          unfold gcdZ
          rw [Int.natAbs_mul, Nat.gcd_comm, Nat.gcd_mul_right_right]
          omega
        refine ⟨[], nf_nil, ?_⟩
        rw [join_nil]
        show _ = (if layB _ _ = true then _ else _)
        rw [if_neg ne]
        unfold ciO
        rw [if_neg ne]
        show _ = (if w = w ∧ 1 < gcdZ (n * m1) n then [Lay.con w (gcdZ (n * m1) n)] else [])
        rw [eg, if_pos ⟨rfl, by omega⟩]
    · rw [ex] at npx ⊢
      rcases join_or [p] ys with ⟨A, w, n, m2, B, e1, rfl, ey⟩ | ⟨sy, ey⟩
      · have e1' := List.append_inj' (s₁ := []) e1 rfl
        obtain ⟨rfl, e1''⟩ := e1'
        cases e1''
        have ey : joinL [.con w n] (.con w m2 :: B) = .con w (n * m2) :: B := ey
        have n2 : 2 ≤ n := (hp.1 _ List.mem_cons_self).2
        have m22 : 2 ≤ m2 := (hy.1 _ List.mem_cons_self).2
        rw [ey] at npy ⊢
        have ne : layB (.con w n) (.con w (n * m2)) ≠ true := fun z => by
          have := layB_iff.mp z
          injection this with _ this
          have h3 : n * 2 ≤ n * m2 := Int.mul_le_mul_of_nonneg_left m22 (by omega)
          omega
        have eg : gcdZ n (n * m2) = n := by
          unfold gcdZ
          rw [Int.natAbs_mul, Nat.gcd_mul_right_right]
          omega
        refine ⟨[], nf_nil, ?_⟩
        rw [join_nil]
        show _ = (if layB _ _ = true then _ else _)
        rw [if_neg ne]
        unfold ciO
        rw [if_neg ne]
        show _ = (if w = w ∧ 1 < gcdZ n (n * m2) then [Lay.con w (gcdZ n (n * m2))] else [])
        rw [eg, if_pos ⟨rfl, by omega⟩]
      · rw [ey] at npy ⊢
        have e : ciL ([p] ++ xs) ([p] ++ ys) = p :: ciL xs ys := ciL_cons_same p xs ys
        rw [e]
        refine ⟨ciL xs ys, ciL_nf hx, ?_⟩
        rw [join_plain fun z => sx (ciL_seam z)]
        rfl
  | p :: q :: ps, xs, ys, hp, hx, hy => by
    obtain ⟨zs, n1, e1⟩ := ciL_max (ps := q :: ps) hp.tail hx hy
    refine ⟨zs, n1, ?_⟩
    have ne : q :: ps ≠ [] := List.cons_ne_nil _ _
    rw [join_cons (xs := zs) ne, join_cons (xs := xs) ne, join_cons (xs := ys) ne, ciL_cons_same, e1]
/-! a walk over two lists of any lengths -/
theorem for_zip3 {K : PySem.W.Frag} {a b : Addr} {xs ys : List V} {g : TG} {tb : TS} {D : Ends} {σ : L2.St} {H : Hp} (Pv : Nat → L2.St → Hp → Prop) (h0 : Pv 0 σ H) (hq : ∀ i σ H, Pv i σ H → SqL K H a xs ∧ SqL K H b ys)
    (hs : ∀ (i : Nat) (x y : V) (T : Addr) (σ : L2.St) (H : Hp), xs[i]? = some x → ys[i]? = some y → Pv i σ H → H T = none → g (.ref T) σ (upd H T (.tup [x, y])) fun σ2 H2 => tb { D with nx := Pv (i + 1), ct := Pv (i + 1), bk := D.nx } σ2 H2) (hd : ∀ i σ H, i = min xs.length ys.length → Pv i σ H → D.nx σ H) :
    ∃ W : Nat → Nat → L2.St → Hp → Prop, (∃ m, W 0 m σ H) ∧ ∀ i m σ H, W i m σ H →
      ((Itz K a b).stop i H ∧ D.nx σ H) ∨ ((Itz K a b).go i H ∧ ∃ N : L2.St → Hp → Prop, (∀ σ' H', N σ' H' → ∃ m', m' < m ∧ W (i + 1) m' σ' H') ∧ ∀ v H', (Itz K a b).yld i H v H' → g v σ H' fun σ2 H2 => tb { D with nx := N, ct := N, bk := D.nx } σ2 H2) := by
  generalize hmin : min xs.length ys.length = l at *
  refine ⟨fun i m σ H => m = l - i ∧ i ≤ l ∧ Pv i σ H, ⟨l, rfl, Nat.zero_le _, h0⟩, ?_⟩
  rintro i m σ H ⟨rfl, hi, p⟩
  obtain ⟨qx, qy⟩ := hq i σ H p
  by_cases hlt : i < l
  · have hx : xs[i]? = some (xs[i]'(by omega)) := List.getElem?_eq_getElem (by omega)
    have hy : ys[i]? = some (ys[i]'(by omega)) := List.getElem?_eq_getElem (by omega)
    refine .inr ⟨⟨xs, ys, _, _, qx, qy, hx, hy⟩, Pv (i + 1), fun σ' H' p' => ⟨l - (i + 1), by omega, rfl, hlt, p'⟩, fun v H' y => ?_⟩
    obtain ⟨T, x', y', rfl, hT, rfl, f1, f2⟩ := y
    exact hs i x' y' T σ H (f1 xs qx) (f2 ys qy) p hT
  · have e : i = l := by omega
    refine .inl ⟨⟨xs, ys, qx, qy, ?_⟩, hd i σ H e p⟩
    omega
theorem nodup_rev {α : Type} {l : List α} (h : l.Nodup) : l.reverse.Nodup := by
  unfold List.Nodup at *
  rw [List.pairwise_reverse]
  exact h.imp fun a => Ne.symm a
theorem Lays.carry {G G' : Hp} {us : List V} {Ls : List Lay} (h : Lays G us Ls) (k : ∀ x o, V.ref x ∈ us → G x = some o → G' x = some o) : Lays G' us Ls := by
  refine ⟨h.1, fun i v L a b => ?_⟩
  have l := h.2 i v L a b
  have m := List.mem_of_getElem? a
  cases L with
  | pol ns => obtain ⟨x, rfl, e⟩ := l; exact ⟨x, rfl, k x _ m e⟩
  | con w n => obtain ⟨x, rfl, e⟩ := l; exact ⟨x, rfl, k x _ m e⟩
theorem Lays.none (G : Hp) : Lays G [] [] := ⟨rfl, fun i v L a => by cases a⟩
theorem eqv_lay {K : PySem.W.Frag} {H : Hp} {u v : V} {L M : Lay} (hL : LayAt H u L) (hM : LayAt H v M) : Dp K H u L.dat ∧ Dp K H v M.dat ∧ SeqAt.shaped L.dat = true ∧ SeqAt.shaped M.dat = true ∧ PyData.eqv L.dat M.dat = layB L M := by
  have sh : ∀ L : Lay, SeqAt.shaped L.dat = true := fun L => by
    cases L with
    | pol ns => exact shaped_ints ns
    | con w n =>
      unfold SeqAt.shaped
      rw [Bool.and_eq_true]
      refine ⟨?_, decide_eq_true ?_⟩
      · show (PyData.tuple [.int w, .int n]).canLay0 = true
        simp only [PyData.canLay0, PyData.canLayAll0, Bool.and_true]
      · show (PyData.tuple [.int w, .int n]).depth ≤ _
        simp only [PyData.depth, PyData.depthAll]
        decide
  exact ⟨dp_lay hL, dp_lay hM, sh L, sh M, eqv_dat L M⟩
end Rn

set_option Elab.async false
set_option linter.all false
set_option maxRecDepth 100000
set_option maxHeartbeats 4000000
namespace Rn
open PySem PySem.Spec PyProof.Rows L2
/-! # p > q of two pairs of whole numbers -/
def rGtP (K : PySem.W.Frag) : R2 := fun x y H Q => ∃ (a b : Addr) (i j k l : Int), x = .ref a ∧ y = .ref b ∧ SqT K H a [.int i, .int j] ∧ SqT K H b [.int k, .int l] ∧ Q (.bl (if i = k then decide (l < j) else decide (k < i))) H
theorem op_gtP {X : Cx} (hu0 : X.A.units + 64 < cLine) : OpR X (compareOp .Gt) (rGtP X.K) := by
  have hu : X.A.units < cLine := by omega
  intro pins s σ H x y v u Q I rx ry h
  obtain ⟨a, b, i, j, k, l, rfl, rfl, ha, hb, q⟩ := h
  cases rx
  cases ry
  obtain ⟨its, r1, p1, _⟩ := I.tuple ha
  obtain ⟨its2, r2, p2, _⟩ := I.tuple hb
  have i1 : IntsAre its [i, j] := Vals.ints (ns := [i, j]) r1
  have i2 : IntsAre its2 [k, l] := Vals.ints (ns := [k, l]) r2
  cases i1 with | cons _ t1 i1 => cases i1 with | cons _ t2 i1 => cases i1 with | nil =>
  cases i2 with | cons _ t3 i2 => cases i2 with | cons _ t4 i2 => cases i2 with | nil =>
  have eqd : ∀ (m n : Int), (m == n) = decide (m = n) := fun m n => by
    by_cases q : m = n
    · rw [decide_eq_true q]; exact beq_iff_eq.mpr q
    · rw [decide_eq_false q]; exact beq_eq_false_iff_ne.mpr q
  have R := Ob.RcOp.tuples_gt (A := X.A) (s := s) (e := fun n => if n = 0 then decide (i = k) else decide (j = l)) (r := fun n => if n = 0 then decide (k < i) else decide (l < j)) p1 p2 hu (fun n h1 h2 => by
    match n, h1, h2 with
    | 0, _, _ => exact eqd i k ▸ SeqAt.EqAt.int_int i _ k _
    | 1, _, _ => exact eqd j l ▸ SeqAt.EqAt.int_int j _ l _
    | n + 2, h1, _ => exact absurd h1 (by simp)) (fun n h1 h2 _ => by
    match n, h1, h2 with
    | 0, _, _ => exact Ob.RcOp.gt_int i k _ _
    | 1, _, _ => exact Ob.RcOp.gt_int j l _ _
    | n + 2, h1, _ => exact absurd h1 (by simp))
  have e : Ob.lexAt (fun n => if n = 0 then decide (i = k) else decide (j = l)) (fun n => if n = 0 then decide (k < i) else decide (l < j)) (decide (2 > 2)) 0 (min 2 2) = (if i = k then decide (l < j) else decide (k < i)) := by
    show Ob.lexAt _ _ _ 0 2 = _
    rw [Ob.lexAt_succ, Ob.lexAt_succ, Ob.lexAt_zero]
    by_cases p : i = k
    · by_cases q : j = l
      · simp [p, q]
      · simp [p, q]
    · simp [p]
  have z : wpAny (model X.prog X.w) X.A (compareOp .Gt (.ref a) (.ref b)) (EP X pins σ Q) X.xe s := R X.prog X.w X.xe (EP X pins σ Q) (by
    show EP X pins σ Q (.bool (Ob.lexAt _ _ (decide (2 > 2)) 0 (min 2 2))) s
    rw [e]
    exact ⟨.bl _, H, I, rfl, q⟩)
  exact z
theorem pg_tupK {X : Cx} {K : PySem.W.Frag} (hK : X.K = K) {es : List Expr} {k : Nat} {t : TGs} {n : Nat} {pos : Pos} (hc : X.calm = true) (h : PGs X es t)
    (hn : (assignEach es X.env).length = n := by rfl) (hst : (assignEach es X.env).findIdx? (·.1) = none := by rfl) : PG X (.Tuple es k pos) (gTup K n t) := by
  subst hK
  exact pg_tup hc h hn hst
end Rn

set_option Elab.async false
set_option linter.all false
set_option maxRecDepth 100000
set_option maxHeartbeats 4000000
/-! # own errors over ValueError: super().__init__('..'), then self.value = value -/
namespace PySem
namespace VeX
open PySem.W PySem.Calls PyProof.Rows PySem.HandSPX
def iA (p1 p2 : Pos) : Arguments := { posonlyargs := [], args := [{ arg := "self", annotation := none, pos := p1 }, { arg := "value", annotation := none, pos := p2 }], vararg := none, kwonlyargs := [], kw_defaults := [], kwarg := none, defaults := [] }
def iB (msg : Str) (q1 q2 q3 q4 q5 q6 q7 q8 q9 q10 : Pos) : List Stmt :=
  [.Expr (.Call (.Attribute (.Call (.Name "super" q1) [] [] q2) "__init__" q3) [.Constant (.str msg) 0 q4] [] q5) q6, .Assign [.Attribute (.Name "self" q7) "value" q8] (.Name "value" q9) q10]
def iS : Scope := { kind := .function, names := [(PySem.Str.ofString "self", .local), (PySem.Str.ofString "value", .local), (PySem.Str.ofString "__class__", .free), (PySem.Str.ofString "super", .globalImplicit)], isGenerator := false, isCoroutine := false, more := [] }
/-- what the written part says of the class named xn, at C, and of its __init__, at fI -/
structure VeTxt (prog : Program) (K : Frag) (mg : Str → Option Value) (xn : Str) (C fI : Addr) : Prop where
  gC : mg xn = some (.ref C)
  gS : mg "super" = none
  cls : ∃ nm q N bs bm sn sub ab col dd k0 k1 k2 k3 k5, K.lookup C = some (excClassObj nm q C N bs bm true sn sub ab col dd k0 k1 k2 k3 k5 "ValueError.__new__") ∧ refsVE bm = true
  sa : findIn K (.ref C) "__setattr__" = some (some (.builtin "object.__setattr__"))
  ga : findIn K (.ref C) "__getattribute__" = some (some (.builtin "BaseException.__getattribute__"))
  gg : findIn K (.ref C) "__getattr__" = some none
  noN : findIn K (.ref C) "value" = some none
  iC : findIn K (.ref C) "__init__" = some (some (.ref fI))
  tC : typeIn K (.ref fI) = some (.type "function")
  kC : keepIn K (.ref C) = true
  exC : subIn K (.ref C) (.type "BaseException") = some true
  veC : subIn K (.ref C) (.type "ValueError") = some true
  tyC : typeIn K (.ref C) = some (.type "type")
  hdC : hasDictIn K C = true
  mroC : mroIn K C (.ref C) = some true
  sup : ks_superIn K C C "__init__" = some (some (.builtin "ValueError.__init__"))
  op : nsIn K cStatics "thirdparty.any" = some none
  top : (prog.main.scope.names.lookup ("super" : Str)).isSome = false
  fn : ∃ (oc : Value) (od : Option Addr) (doc pm : Value) (an : Option Addr) (cc cda : Addr) (ct : Value) (osl : Array (Option Value)) (p1 p2 q1 q2 q3 q4 q5 q6 q7 q8 q9 q10 : Pos) (msg qual : Str) (ccl cl : Value) (cdd cld : Option Addr) (ccs csl : Array (Option Value)) (vs : Array Value) (file : Str) (tf : Tok),
    K.lookup fI = some ⟨oc, od, .func (ksFn "__init__" qual (iA p1 p2) (iB msg q1 q2 q3 q4 q5 q6 q7 q8 q9 q10) iS .none .none doc pm an (.ref cda) ct cc), osl⟩ ∧ codeIn K (.ref cda) qual = true ∧ (q3.endLine == q5.line) = true ∧
    K.lookup cda = some ⟨ccl, cdd, .fields vs, ccs⟩ ∧ vs[2]? = some (.str file tf) ∧ ((prog.main.file : Str) == file) = true ∧ K.lookup cc = some ⟨cl, cld, .cell (some (.ref C)), csl⟩
structure InitEnd (h h' : Heap) (x C dx t1 : Addr) (v : Value) : Prop where
  keep : ∀ b o, b ≠ x → h.get? b = some o → h'.get? b = some o
  obj : h'.get? x = some { cls := .ref C, dict := some dx, data := .fields #[.ref t1, .none, .none, .none, .bool false, .none] }
  dbig : h.objs.size ≤ dx
  dne : dx ≠ x
  ns : h'.Ns1 dx (fun y => if y = "value" then some v else none)
structure OwnMade (h h' : Heap) (e C d : Addr) (v : Value) : Prop where
  keep : ∀ b o, h.get? b = some o → h'.get? b = some o
  new : h.objs.size ≤ e
  obj : ∃ oe vs, h'.get? e = some oe ∧ oe.cls = .ref C ∧ oe.dict = some d ∧ oe.data = .fields vs ∧ vs[1]? = some .none
  dbig : h.objs.size ≤ d
  dne : d ≠ e
  ns : h'.Ns1 d (fun y => if y = "value" then some v else none)
section
variable {prog : Program} {w : World} {M : Model} {A : Around} {E : Value → Shared → Prop} {s : Shared}
theorem cw1 {pos : Pos} {u x : Addr} {i : String} {env : Env} {e : Expr} {rest : List Expr} {Q : Value → Shared → Prop}
    (h : wpAny M A (spliced (backTo pos (starEach (e :: rest) env))) (fun vs s₁ => KxsAt i u x s₁.heap ∧ wpAny M A (call (.ref u) vs) Q E s₁) E s)
    (he : starEach (e :: rest) env = (false, eval e env) :: starEach rest env := by rfl) (hplain : (backTo pos (starEach rest env)).any (·.1) = false := by rfl) :
    wpAny M A (callWith pos (.ref u) [] (backTo pos (starEach (e :: rest) env)) []) Q E s := by
  rw [he] at h ⊢
  refine kxs_callWith (i := i) (x := x) (by show (false || (backTo pos (starEach rest env)).any (·.1)) = false; rw [hplain]; rfl) ?_
  exact evalArgs_plain h
end
section
variable {prog : Program} {w : World} {A : Around} {c : Code} {E : Value → Shared → Prop} {s : Shared} {env : Env}
theorem mcall {o : Expr} {name : Str} {apos pos : Pos} {args : List Expr} {Q : Value → Shared → Prop} (hline : (apos.endLine == pos.line) = true)
    (h : _root_.PySem.wpAt (model prog w) A c (attributeBase o name env (eval o env)) (fun ov s₁ => wpAny (model prog w) A (getMethod ov name (do return (← importBound o env).getD true)) (fun fx s₂ => wpAny (model prog w) A (callWith pos fx.1 fx.2 (backTo pos (starEach args env)) []) Q E s₂) E s₁) E s)
    (hfew : methodCallForm (args.length + ([] : List Keyword).length) (backTo pos (starEach args env)) (backToKw pos (keywordEach [] env)) = true := by rfl) :
    _root_.PySem.wpAt (model prog w) A c (eval (.Call (.Attribute o name apos) args [] pos) env) Q E s := by
  rw [arm_eval_Call]
  have hpos : methodCallPos true o env apos pos = pure pos := by unfold methodCallPos; simp [hline]
  refine wpAt_bind (wpAt_mono h (fun ov s₁ h₁ => wpAt_of_wpAny (wpAny_bind (wpAny_standAt ?_))) fun _ _ x => x)
  unfold methodCall
  rw [hfew]
  exact wpAny_bind (wpAny_holding (wpAny_mono h₁ (fun fx s₂ h₂ => wpAny_bind (wpAny_of_eq hpos h₂)) fun _ _ x => x))
end
section
variable {prog : Program} {w : World} {A : Around} {E : Value → Shared → Prop} {h : Heap} {g : Array GenState} {d : Drawn} {t : Nat} {os : OsState}
variable {nm q : Str} {C N : Addr} {bs bm : List Value} {hdct : Bool} {sn : List Str} {sub : List Value} {ab : Bool} {col : Option Bool} {dd : Option Addr} {k0 k1 k2 k3 k5 : Option Value}
theorem call_bwV {u e t0 : Addr} {rest : List Value} {Q : Value → Shared → Prop}
    (hC : h.get? C = some (excClassObj nm q C N bs bm hdct sn sub ab col dd k0 k1 k2 k3 k5 "ValueError.__new__")) (he : h.get? e = some (HandSPX.excO C t0)) (hu : KxsAt "ValueError.__init__" u e h) (hrest : rest.length ≤ sizeLine)
    (hq : ∀ h' t1, (∀ b o, b ≠ e → h.get? b = some o → h'.get? b = some o) → h'.get? e = some (HandSPX.excO C t1) → h.objs.size ≤ h'.objs.size → Q .none ⟨h', g, d, t, os⟩) :
    wpAny (model prog w) A (call (.ref u) rest) Q E ⟨h, g, d, t, os⟩ := by
  have hu : h.get? u = some (kxs_mw "ValueError.__init__" e) := hu
  refine wpAny_call (codeAny_of_tree ?_)
  show wpAny _ A.in1 (callAny (.ref u) ⟨rest, []⟩) _ _ _
  simp only [callAny]
  refine wpAny_bind (wpAny_load hu ?_)
  simp only [kxs_mw, show (Value.type "method-wrapper" == Value.type "method" || Value.type "method-wrapper" == Value.type "builtin_function_or_method" || Value.type "method-wrapper" == Value.type "method-wrapper") = true by decide, if_true]
  refine W.KFB.if_so (by decide) ?_
  refine wpAny_bind (ESX.check_bound F.excBase_ValueError hC he rfl ?_)
  refine wpAny_bind (wpAny_pure (wpAny_pure ?_))
  refine ⟨Code.quiet_builtin _ (by decide +kernel), codeAny_builtin F.excBase_ValueError.initEntry ?_⟩
  rw [Around.under_plainId F.excBase_ValueError.init.plain _]
  wp_walk
  refine hq _ h.objs.size (fun b o hb ho => ?_) ?_ ?_
  · rw [Heap.get?_update_other _ _ (Ne.symm hb)]
    exact Heap.get?_push_of_some _ ho
  · rw [Heap.get?_update_self _ (Heap.get?_push_of_some _ he) rfl]
    rfl
  · simp
end
section
variable {prog : Program} {w : World} {A : Around} {E : Value → Shared → Prop} {R : Result → Shared → Prop} {s : Shared} {K : Frag} {mg mb : Str → Option Value} {xn : Str} {C fI : Addr}
theorem one_size (v : Value) : [v].length ≤ sizeLine := by
  rw [sizeLine_eq]
  exact (by decide : 1 ≤ 16777216)
theorem ve_init (T : VeTxt prog K mg xn C fI) {x t0 : Addr} {v : Value} (X : K.In s.heap) (hg : s.heap.Ns mainGlobals mg) (hb : s.heap.Ns builtinsNs mb) (hbo : mb "super" = some (.type "super")) (hlim : s.heap.NoLimit) (hx : s.heap.get? x = some (excO C t0)) (hnx : K.lookup x = none) (hroom : A.depth < recursionLimit)
    (hq : ∀ h' tk dx t1, InitEnd s.heap h' x C dx t1 v → R (.ok (.ret .none)) { s with heap := h', toks := tk }) :
    codeAny (model prog w) A (.call (.ref fI) ⟨[.ref x, v], []⟩) R s := by
  obtain ⟨oc, od, doc, pm, an, cc, cda, ct, osl, p1, p2, q1, q2, q3, q4, q5, q6, q7, q8, q9, q10, msg, qual, ccl, cl, cdd, cld, ccs, csl, vs, file, tf, ho, hcd, hline, hcode, hvs, hfile, hcell⟩ := T.fn
  obtain ⟨nm, q, N, bs, bm, sn, sub, ab, col, dd, k0, k1, k2, k3, k5, hC, hbm⟩ := T.cls
  have hcl : clsIn K C = some { name := nm, bases := bs, mro := .ref C :: bm, ns := N, qualname := q, hasDict := true, slotNames := sn, subclasses := sub, abstract := ab, collection := col, hasDel := false } := by unfold clsIn; rw [hC] <;> rfl
  refine ks_codeAny_call_defAt (fd := ksFn "__init__" qual (iA p1 p2) (iB msg q1 q2 q3 q4 q5 q6 q7 q8 q9 q10) iS .none .none doc pm an (.ref cda) ct cc) (body := iB msg q1 q2 q3 q4 q5 q6 q7 q8 q9 q10) (binds := [("self", .ref x), ("value", v)]) hroom (X _ _ ho) rfl hlim (codeRec_of X hcd) rfl (BindsTo.of_eq (by first | rfl | with_unfolding_all rfl)) (by show ∀ y ∈ iS.names, y.2 ≠ .cell; decide +kernel) (by intro y hy; simp only [List.mem_cons, List.not_mem_nil, or_false] at hy; rcases hy with rfl | rfl <;> rfl) (fun h₀ hns k => ?_) rfl rfl rfl
  have X₀ : K.In h₀ := X.keeps k
  have hx₀ := k _ _ hx
  have hxL : s.heap.objs.size ≠ x := Nat.ne_of_gt (Heap.lt_size hx)
  show _root_.PySem.wpAt _ _ _ (execs (iB msg q1 q2 q3 q4 q5 q6 q7 q8 q9 q10) (ksEnv qual iS s.heap.objs.size fI (.ref cda) cc)) _ _ _
  unfold iB
  refine ks_wpAt_execs_cons (ks_wpAt_Expr_any (mcall hline ?_))
  refine ks_wpAt_super_base (fd := ksFn "__init__" qual (iA p1 p2) (iB msg q1 q2 q3 q4 q5 q6 q7 q8 q9 q10) iS .none .none doc pm an (.ref cda) ct cc) (ar := { arg := "self", annotation := none, pos := p1 }) (by rfl) (by rfl) (by decide +kernel) rfl (X₀ _ _ ho) rfl rfl rfl (X₀ _ _ hcode) rfl hvs hfile T.top ?_
  refine ks_loadName_global rfl (by rfl) (loadGlobal_builtin (hg.keeps k) T.gS (hb.keeps k) hbo ⟨rfl, ?_⟩)
  refine wpAny_loadName_free rfl (by rfl) rfl ⟨_, X₀ _ _ hcell, rfl⟩ ?_
  refine wpAny_loadName_local (v := .ref x) rfl (by rfl) hns (by first | rfl | with_unfolding_all rfl | kernel_rfl) ?_
  refine ks_wpAny_isType_cls (X₀ _ _ hC) rfl ⟨rfl, ?_⟩
  refine ks_wpAny_call_super (X₀ _ _ hC) rfl hx₀ rfl (fun c e => by cases e) (looks_mroIn X₀ T.mroC) (fun h₁ e₁ k₁ => ?_)
  have X₁ : K.In h₁ := X₀.keeps k₁
  have hx₁ := k₁ _ _ hx₀
  have I₁ : InstAt h₁ x (excO C t0) C none := ⟨hx₁, rfl, rfl, trivial⟩
  have hm := T.sup
  unfold ks_superIn at hm
  rw [hcl] at hm
  refine kxs_getMethod kxs_ValueError e₁ (looks_opaque X₁ T.op) (l₀ := .ref C :: bm) (fun A Q E s k q => wpAny_bind ((looks_clsIn X₁ hcl) A _ E s k (wpAny_pure q))) rfl X₁ hm (I₁.type.andThen (looks_subIn X₁ T.veC)) (ks_ne X₁ I₁ hcl) (by decide +kernel) ?_
  have k₂ : ∀ b o, h₁.get? b = some o → (h₁.push (kxs_mw "ValueError.__init__" x)).get? b = some o := fun b o e => Heap.get?_push_of_some _ e
  refine cw1 (i := "ValueError.__init__") (x := x) (args_cons (wpAny_Constant_str (args_nil ⟨Heap.get?_push_at rfl rfl, ?_⟩)))
  refine call_bwV ((X₁.keeps k₂) _ _ hC) (k₂ _ _ hx₁) (Heap.get?_push_at rfl rfl) (one_size _) (fun h₃ t1 k₃ e₃ hs₃ => ?_)
  have kall : ∀ b o, b ≠ x → h₀.get? b = some o → h₃.get? b = some o := fun b o hb e => k₃ b o hb (k₂ b o (k₁ b o e))
  have X₃ : K.In h₃ := fun a o e => kall _ _ (fun z => by rw [z, hnx] at e; cases e) (X₀ _ _ e)
  refine wpAt_of_wpAny ?_
  show wpAny _ _ (execs _ _) _ _ _
  refine wpAny_execs_cons (plainObj_wpAny_Assign_Attribute ?_)
  have hn₃ : h₃.Ns s.heap.objs.size (fun y => ([(("self" : Str), Value.ref x), (("value" : Str), v)] : List (Str × Value)).reverse.lookup y) := by
    obtain ⟨o, es, ep, ho', r⟩ := hns
    exact ⟨o, es, ep, kall _ _ hxL ho', r⟩
  refine ESX.ldL (v := v) hn₃ (by first | rfl | with_unfolding_all rfl | kernel_rfl) (ESX.ldL (v := .ref x) hn₃ (by first | rfl | with_unfolding_all rfl | kernel_rfl) ?_)
  refine set_plain X₃ (ox := excO C t1) (od := none) ⟨e₃, rfl, rfl, trivial⟩ T.sa ?_
  refine exc_osa X₃ e₃ hcl (show refsVE (.ref C :: bm) = true from hbm) rfl T.noN (fun h₄ tk₄ dx k₄ dn dne hx₄ hn₄ => ?_)
  show wpAny _ _ (execs _ _) _ _ _
  have hsz : s.heap.objs.size ≤ h₃.objs.size := Nat.le_of_lt hn₃.lt
  exact wpAny_execs_nil (hq h₄ tk₄ dx t1 ⟨fun b o hb e => k₄ b o hb (kall b o hb (k b o e)), hx₄, Nat.le_trans hsz dn, dne, hn₄⟩)
theorem ve_made (T : VeTxt prog K mg xn C fI) {v : Value} (X : K.In s.heap) (hg : s.heap.Ns mainGlobals mg) (hb : s.heap.Ns builtinsNs mb) (hbo : mb "super" = some (.type "super")) (hlim : s.heap.NoLimit) (hroom : A.depth + 1 < recursionLimit)
    (hq : ∀ h' tk e d, OwnMade s.heap h' e C d v → R (.ok (.ret (.ref e))) { s with heap := h', toks := tk }) :
    codeAny (model prog w) A (.call (.ref C) ⟨[v], []⟩) R s := by
  obtain ⟨nm, q, N, bs, bm, sn, sub, ab, col, dd, k0, k1, k2, k3, k5, hC, hbm⟩ := T.cls
  obtain ⟨hp, g, dr, tk, os⟩ := s
  have k : ∀ b o, hp.get? b = some o → ((hp.push (kdv_tup [v])).push (excO C hp.objs.size)).get? b = some o := fun b o e => Heap.get?_push_of_some _ (Heap.get?_push_of_some _ e)
  have hget : ((hp.push (kdv_tup [v])).push (excO C hp.objs.size)).get? (hp.objs.size + 1) = some (excO C hp.objs.size) := by heap_get
  have hnx : K.lookup (hp.objs.size + 1) = none := by
    cases e : K.lookup (hp.objs.size + 1) with
    | none => rfl
    | some o =>
      have z : hp.get? (hp.objs.size + 1) = some o := X _ _ e
      exact absurd (Nat.lt_of_succ_lt (Heap.lt_size z)) (Nat.lt_irrefl _)
  refine call_own F.excBase_ValueError (fun X => refsVE_contains X bm hbm) (X _ _ hC) (looks_findIn X T.iC) (fun self => bind_fn X self T.tC) (one_size v) ?_
  refine ve_init (s := ⟨(hp.push (kdv_tup [v])).push (excO C hp.objs.size), g, dr, tk, os⟩) T (X.keeps k) (hg.keeps k) (hb.keeps k) hbo (hlim.keeps k) hget hnx ?_ fun h' tk' dx t1 ⟨k', hx, dn, dne, hns⟩ => ?_
  · show A.depth + 1 < recursionLimit
    exact hroom
  · have old : ∀ b o, hp.get? b = some o → h'.get? b = some o := fun b o e => k' b o (Nat.ne_of_lt (Nat.lt_succ_of_lt (Heap.lt_size e))) (k b o e)
    have z : hp.objs.size + 1 + 1 ≤ dx := by
      first
        | (simpa only [Heap.size_push] using dn)
        | exact dn
        | (have q := dn; rw [Heap.size_push, Heap.size_push] at q; exact q)
    exact ⟨rfl, hq h' tk' (hp.objs.size + 1) dx ⟨old, Nat.le_succ _, ⟨_, _, hx, rfl, rfl, rfl, rfl⟩, Nat.le_trans (Nat.le_trans (Nat.le_succ _) (Nat.le_succ _)) z, dne, hns⟩⟩
theorem ve_sup {nm q nR qR : Str} {N CR NR : Addr} {bs bR bm : List Value} {hd hdR : Bool} {sn snR : List Str} {sub subR : List Value} {ab abR : Bool} {col colR : Option Bool} {dd ddR : Option Addr} {k0 k1 k2 k3 k5 r0 r1 r2 r3 r5 : Option Value} {n1 n2 : String} {u : Value}
    (xL : K.lookup C = some (excClassObj nm q C N bs (.ref CR :: bm) hd sn sub ab col dd k0 k1 k2 k3 k5 n1)) (xR : K.lookup CR = some (excClassObj nR qR CR NR bR bm hdR snR subR abR colR ddR r0 r1 r2 r3 r5 n2)) (fR : findIn K (.ref CR) "__init__" = some (some u)) : ks_superIn K C C "__init__" = some (some u) := by
  have fR' : alongIn K "__init__" (.ref CR :: bm) = some (some u) := by
    unfold findIn at fR
    dsimp only at fR
    rw [xR] at fR
    exact fR
  unfold ks_superIn clsIn
  rw [xL]
  show alongIn K "__init__" (((Value.ref C :: .ref CR :: bm).dropWhile (· != .ref C)).drop 1) = _
  rw [ESX.drop_own]
  exact fR'
theorem ve_mk {h : Heap} {nm q : Str} {N : Addr} {bs bm : List Value} {sn : List Str} {sub : List Value} {ab : Bool} {col : Option Bool} {dd : Option Addr} {k0 k1 k2 k3 k5 : Option Value} {qual : Str}
    {oc : Value} {od : Option Addr} {doc pm : Value} {an : Option Addr} {cc cda : Addr} {ct : Value} {osl : Array (Option Value)} {p1 p2 q1 q2 q3 q4 q5 q6 q7 q8 q9 q10 : Pos} {msg : Str} {ccl cl : Value} {cdd cld : Option Addr} {ccs csl : Array (Option Value)} {vs : Array Value} {file : Str} {tf : Tok}
    (X : K.In h) (G : h.Ns mainGlobals mg) (aC : nsIn K mainGlobals xn = some (some (.ref C))) (aS : nsIn K mainGlobals "super" = some none) (xL : K.lookup C = some (excClassObj nm q C N bs bm true sn sub ab col dd k0 k1 k2 k3 k5 "ValueError.__new__")) (hbm : refsVE bm = true)
    (sa : findIn K (.ref C) "__setattr__" = some (some (.builtin "object.__setattr__"))) (ga : findIn K (.ref C) "__getattribute__" = some (some (.builtin "BaseException.__getattribute__"))) (gg : findIn K (.ref C) "__getattr__" = some none) (noN : findIn K (.ref C) "value" = some none)
    (iC : findIn K (.ref C) "__init__" = some (some (.ref fI))) (tC : typeIn K (.ref fI) = some (.type "function")) (kC : keepIn K (.ref C) = true) (exC : subIn K (.ref C) (.type "BaseException") = some true) (veC : subIn K (.ref C) (.type "ValueError") = some true)
    (tyC : typeIn K (.ref C) = some (.type "type")) (hdC : hasDictIn K C = true) (mroC : mroIn K C (.ref C) = some true) (sup : ks_superIn K C C "__init__" = some (some (.builtin "ValueError.__init__"))) (op : nsIn K cStatics "thirdparty.any" = some none) (top : (prog.main.scope.names.lookup ("super" : Str)).isSome = false)
    (lI : K.lookup fI = some ⟨oc, od, .func (ksFn "__init__" qual (iA p1 p2) (iB msg q1 q2 q3 q4 q5 q6 q7 q8 q9 q10) iS .none .none doc pm an (.ref cda) ct cc), osl⟩) (cI : codeIn K (.ref cda) qual = true) (hl : (q3.endLine == q5.line) = true)
    (cd : K.lookup cda = some ⟨ccl, cdd, .fields vs, ccs⟩) (fv : vs[2]? = some (.str file tf)) (fm : ((prog.main.file : Str) == file) = true) (ce : K.lookup cc = some ⟨cl, cld, .cell (some (.ref C)), csl⟩) : VeTxt prog K mg xn C fI :=
  { gC := mg_of X G aC, gS := mg_none_of X G aS, cls := ⟨nm, q, N, bs, bm, sn, sub, ab, col, dd, k0, k1, k2, k3, k5, xL, hbm⟩, sa := sa, ga := ga, gg := gg, noN := noN, iC := iC, tC := tC, kC := kC, exC := exC, veC := veC, tyC := tyC, hdC := hdC, mroC := mroC, sup := sup, op := op, top := top,
    fn := ⟨oc, od, doc, pm, an, cc, cda, ct, osl, p1, p2, q1, q2, q3, q4, q5, q6, q7, q8, q9, q10, msg, qual, ccl, cl, cdd, cld, ccs, csl, vs, file, tf, lI, cI, hl, cd, fv, fm, ce⟩ }
end
end VeX
end PySem
namespace Rn
open PySem PySem.Spec PyProof.Rows L2
theorem relO_val {v : V} {v' : Value} (r : RelV v v') (f : Str) : RelO (List.lookup f [(("value" : Str), v)]) (if f = "value" then some v' else none) := by
  by_cases hw : f = "value"
  · subst hw
    rw [if_pos rfl]
    have q : List.lookup ("value" : Str) [(("value" : Str), v)] = some v := by simp [List.lookup]
    rw [q]
    exact r
  · rw [if_neg hw]
    have qw : (f == ("value" : Str)) = false := by simpa using hw
    have q2 : List.lookup f [(("value" : Str), v)] = none := by simp [List.lookup, qw]
    rw [q2]
    trivial
section
variable {X : Cx} {C fI : Addr} {xn : Str}
/-- X(e) -/
def tMkVe (C : Addr) (ta : TA) : L2.St → Hp → XK → Prop := fun σ H Q => ta σ H fun vs H1 => ∃ v, vs = [v] ∧ ∀ d, H1 d = none → Q (.ref C) (some d) (upd H1 d (.xd [(("value" : Str), v)]))
theorem pmk_ve {a : Expr} {ta : TA} {p pos : Pos} {k : Nat} (T : PySem.VeX.VeTxt X.prog X.K X.mg xn C fI) (hr : Room k X.A) (ha : PA X [a] ta) (hg : Gl X xn := by rfl)
    (hdb : (xn == ("__debug__" : Str)) = false := by decide)
    (he : starEach (a :: []) X.env = (false, eval a X.env) :: starEach [] X.env := by rfl) (hpl : (backTo pos (starEach [] X.env)).any (·.1) = false := by rfl) :
    PMk X (.Call (.Name xn p) [a] [] pos) (tMkVe C ta) := by
  intro pins s σ H Q I h
  refine wpAny_Call_Name_kw (ld_glob I hg T.gC ?_ hdb)
  refine PySem.W.callWith_K (h₀ := X.base) I.ok.mod.kin T.kC (thn (ha.run pos pins s σ H _ I h) fun us s1 hh => ?_) he hpl
  obtain ⟨vs, H1, I1, r1, v, ev, q1⟩ := hh
  subst ev
  refine ⟨I1.kIn, ?_⟩
  cases r1 with
  | cons rv rn =>
    rename_i v' us'
    cases rn
    show wpAny _ _ (call (.ref C) [v']) _ _ _
    have hlim := I1.nolimit
    obtain ⟨mb, hmb, hbo⟩ := I1.ok.mod.blt
    have kb : ∀ b o, X.base.get? b = some o → s1.heap.get? b = some o := I1.bk
    have hG := I1.ok.mod.glob.keeps kb
    have hB := hmb.keeps kb
    have hS : mb "super" = some (.type "super") := (hbo _ (by decide +kernel)).trans (by first | rfl | kernel_rfl)
    obtain ⟨hp, g, dr, tk, os⟩ := s1
    refine wpAny_call (PySem.VeX.ve_made T I1.kIn hG hB hS hlim (by have := hr.dp; omega) fun h' tk' e d M => ?_)
    show MkP X pins σ Q (.ref e) ⟨h', g, dr, tk', os⟩
    obtain ⟨oe, fv, hoe, hc, hd, hdat, h1⟩ := M.obj
    have hns := M.ns
    obtain ⟨G', g1, g2⟩ := restrict h' fun b => decide (b ≠ e)
    have gk : ∀ b, b ≠ e → G'.get? b = h'.get? b := fun b hb => g1 b (decide_eq_true hb)
    have ge : G'.get? e = none := g2 e (by simp)
    have old : ∀ b o, hp.get? b = some o → G'.get? b = some o := fun b o q => (gk b (Nat.ne_of_lt (Nat.lt_of_lt_of_le (Heap.lt_size q) M.new))).trans (M.keep b o q)
    have ob : ObjOk X.prog X.w (upd H1 d (.xd [(("value" : Str), v)])) G' d (.xd [(("value" : Str), v)]) :=
      ⟨_, hns.at (fun o q => (gk d M.dne).trans q), fun f => relO_val rv f⟩
    have J : Inv X pins σ (upd H1 d (.xd [(("value" : Str), v)])) ⟨G', g, dr, tk', os⟩ := I1.laid (t' := tk') old M.dbig ob
    refine ⟨e, oe, fv, ⟨G', g, dr, tk', os⟩, _, .ref C, some d, rfl, J, fun b o q => ?_, ge, hoe, ⟨hc, hd⟩, hdat, h1, ?_, rfl, I1.bare, raises_own T.exC T.tyC, q1 d (I1.hok.fresh M.dbig)⟩
    · by_cases hb : b = e
      · have q' : G'.get? b = some o := q
        rw [hb, ge] at q'; cases q'
      · exact (gk b hb).symm.trans q
    · rw [upd_ne (Ne.symm M.dne)]
      exact I1.hok.fresh M.new
/-- raise X(e) -/
def tRaiseVe (C : Addr) (W : WX) (ta : TA) : TS := fun _ σ H => tMkVe C ta σ H fun cls d H' => W cls d σ H'
theorem ps_raiseVe {a : Expr} {ta : TA} {W : WX} {p pos pos2 : Pos} {k : Nat} (hc : X.calm = true) (T : PySem.VeX.VeTxt X.prog X.K X.mg xn C fI) (hr : Room k X.A) (tk : Takes X W) (ha : PA X [a] ta) (hg : Gl X xn := by rfl)
    (hdb : (xn == ("__debug__" : Str)) = false := by decide)
    (he : starEach (a :: []) X.env = (false, eval a X.env) :: starEach [] X.env := by rfl) (hpl : (backTo pos (starEach [] X.env)).any (·.1) = false := by rfl) :
    PS X (.Raise (some (.Call (.Name xn p) [a] [] pos)) none pos2) (tRaiseVe C W ta) := ps_raise hc tk (pmk_ve T hr ha hg hdb he hpl)
/-- e.value, e the exception that the suite holds (at a; its class cls, its dict d) -/
def tValOf (P : Program) (K : PySem.W.Frag) (mg : Str → Option Value) (a : Addr) (cls : Value) (d : Option Addr) (te : TE) : TE := fun σ H Q => te σ H fun x H1 => x = .ref a ∧ ∃ (xn : Str) (C fI : Addr), PySem.VeX.VeTxt P K mg xn C fI ∧ cls = .ref C ∧ ∃ (dd : Addr) (v : V), d = some dd ∧ H1 dd = some (.xd [(("value" : Str), v)]) ∧ Q v H1
theorem pe_valOf {a : Addr} {oe : Obj} {cls : Value} {d : Option Addr} {pn : List (Addr × Obj)} {e : Expr} {te : TE} {pos : Pos} (hz : Zc cls d oe) (hf : ∃ vs, oe.data = .fields vs) (he : PE (X.suite a ((a, oe) :: pn)) e te)
    (hb : attributeBase e "value" X.env (eval e X.env) = eval e X.env := by rfl) :
    PE (X.suite a ((a, oe) :: pn)) (.Attribute e "value" pos) (tValOf X.prog X.K X.mg a cls d te) := by
  refine ⟨fun pins s σ H Q I h => ?_⟩
  refine attr_of hb (thn (he.run pins s σ H _ I h) fun u s1 hh => ?_)
  obtain ⟨x, H1, I1, rx, ex, xn, C, fI, T, ec, dd, v, ed, ea, q⟩ := hh
  subst ex
  obtain rfl : u = Value.ref a := rx
  subst ec
  subst ed
  obtain ⟨ha, _⟩ := I1.pin (a, oe) (List.mem_append_left _ List.mem_cons_self)
  obtain ⟨vs, hd⟩ := hf
  have hx : ObjOk X.prog X.w H1 s1.heap dd (.xd [(("value" : Str), v)]) := I1.hok dd _ ea
  obtain ⟨mA, hns, hr⟩ := hx
  obtain ⟨od, ho, hl⟩ := lookIn_ns hns
  have l : List.lookup ("value" : Str) [(("value" : Str), v)] = some v := by simp [List.lookup]
  obtain ⟨u, hu, ru⟩ := RelO.some_of (v := v) (o := mA "value") (by rw [← l]; exact hr "value")
  have J : PySem.W.InstAt s1.heap a oe C (some od) := ⟨ha, hz.1, by unfold PySem.W.notCls; rw [hd] <;> rfl, by rw [hz.2]; exact ho⟩
  exact HandSPX.exc_get I1.kIn J T.ga T.gg T.exC (PySem.W.findObj_own T.hdC T.noN rfl (by rw [hl, hu])) (handed_of ru) ⟨v, H1, I1.tok _, ru, q⟩
end
/-- an error of the class at S is what «except D» names -/
theorem exm_is {K : PySem.W.Frag} {S D : Addr} {b : Bool} (h1 : PySem.W.subIn K (.ref D) (.type "BaseException") = some true) (h2 : PySem.W.isClsIn K D = true) (h3 : PySem.W.typeIn K (.ref D) = some (.type "type")) (h4 : PySem.W.subIn K (.ref S) (.ref D) = some b) :
    PySem.W.exmOne K (.ref S) (.ref D) = some b := by
  have e1 : (PySem.W.subIn K (.ref D) (.type "BaseException") == some true) = true := by rw [h1] <;> rfl
  have e2 : ((PySem.W.clsIn K D).isSome && PySem.W.typeIn K (.ref D) == some (.type "type")) = true := by
    have h2' : (PySem.W.clsIn K D).isSome = true := h2
    rw [h2', h3] <;> rfl
  show (if (PySem.W.subIn K (.ref D) (.type "BaseException") == some true) = true then (if ((PySem.W.clsIn K D).isSome && PySem.W.typeIn K (.ref D) == some (.type "type")) = true then PySem.W.subIn K (.ref S) (.ref D) else none) else none) = some b
  rw [if_pos e1, if_pos e2]
  exact h4
/-- a def that raises nothing where its promise leaves no way for it -/
theorem calm0 {P : Program} {w : World} {K : PySem.W.Frag} {mg : Str → Option Value} {base : Heap} {k : Nat} {f : Addr} {fd : FuncData} {ps : List Str} {sp sp0 : Sp} (F : FnOk P w K mg base (L2.CX P w) k f fd ps sp) (h : ∀ vs H Q E, sp0 vs H Q E → sp vs H Q (fun _ _ _ => False)) : FnOk P w K mg base CX0 k f fd ps sp0 :=
  ⟨fun vs H Q E q => F.len vs H Q _ (h _ _ _ _ q), fun A outer s H args us vs Q E hr he hb hv hs => codeAny_mono (F.run A outer s H args us vs Q _ hr he hb hv (h _ _ _ _ hs)) fun r s' z => by
    cases r with
    | error e =>
      obtain ⟨_, _, _, _, _, _, _, _, _, _, _, _, z⟩ := z
      exact z.elim
    | ok fl => cases fl <;> exact z⟩
end Rn

set_option Elab.async false
set_option linter.all false
set_option maxRecDepth 100000
set_option maxHeartbeats 4000000
namespace Rn
open PySem PySem.Spec PyProof.Rows L2
/-! # isinstance of a caught error that has a value -/
section
variable {prog : Program} {w : World} {A : Around} {E : Value → Shared → Prop} {s : Shared} {K : PySem.W.Frag} {x D : Addr} {ox od : Obj}
open PySem.W PySem.Calls in
theorem cls_err {Q : Option Value → Shared → Prop} (C : ExcC K D) (X : K.In s.heap) (I : PySem.W.InstAt s.heap x ox D (some od)) (h : Q (some (.ref D)) { s with toks := s.toks + 1 }) : wpAny (model prog w) A (getAttr? (.ref x) "__class__") Q E s := by
  have hf : findObj K D (some od) "__class__" = some (.bind (.builtin "getset_descriptor.__get__") (.builtin "object.__class__")) := findObj_data (by obtain ⟨cd, hc, _⟩ := any_some C.hd; rw [hc]; rfl) C.ha C.hn C.ht
  obtain ⟨hp, g, d, t, os⟩ := s
  have lk0 := I.type (M := model prog w); have lk1 := looks_findIn (M := model prog w) X C.hg
  have lk2 := looks_findIn (M := model prog w) X C.hk; have lk3 := looks_find (M := model prog w) X I hf
  have isb : Looks (model prog w) hp (isInstance (.ref x) (.type "BaseException")) true := lk0.andThen (looks_subIn X C.hs)
  have nb : (Value.builtin "BaseException.__getattribute__" == Value.builtin "object.__getattribute__") = false := by decide +kernel
  have nb1 : (onTheHeap (Value.ref D) && Value.builtin "BaseException.__getattribute__" == Value.builtin "object.__getattribute__") = false := by rw [nb]; rfl
  unfold getAttr? getAttrBy? getAttrBy
  refine wpAny_bind (wpAny_mkText (wpAny_bind (wpAny_attempt (wpAny_holding (wpAny_bind (lk0.at (wpAny_bind (lk1.at ?_))))))))
  show wpAny _ _ (if (onTheHeap (Value.ref D) && Value.builtin "BaseException.__getattribute__" == Value.builtin "object.__getattribute__") = true then _ else _) _ _ _
  rw [nb1, if_neg Bool.false_ne_true]; unfold getAttrByItsOwn hookBefore
  refine wpAny_bind ?_
  rw [if_pos (show onTheHeap (Value.ref D) = true from rfl)]
  refine lk2.at (wpAny_bind (wpAny_attempt (wpAny_holding ?_)))
  unfold callGetattribute
  rw [show (false && onTheHeap (Value.builtin "BaseException.__getattribute__")) = false from rfl, if_neg Bool.false_ne_true]; unfold boundAndCalled
  rw [PySem.F.excAttr_ValueError.ga.bind (.ref x)]; refine wpAny_bind (wpAny_pure ?_)
  show wpAny _ _ (call (.builtin "BaseException.__getattribute__") [.ref x, .str "__class__" t]) _ _ _
  refine wpAny_call (codeAny_call_builtin PySem.F.excAttr_ValueError.ga.plain PySem.F.entry_bexc_ga ?_)
  refine @check_slot (model prog w) _ _ ⟨hp, g, d, t + 1, os⟩ "BaseException.__getattribute__" "BaseException" "__getattribute__" (.ref x) [.str "__class__" t] [] _ (by decide +kernel) (by decide +kernel) isb (PySem.F.args_bexc_ga (.ref x) (.str "__class__" t)) ?_
  unfold Builtin.«object.__getattribute__»
  refine wpAny_bind (wpAny_of_eq (a := ((Value.ref x : Value), [Value.str "__class__" t])) (by first | rfl | (simp only [slotArgs]; rfl)) ?_)
  refine wpAny_bind (wpAny_pure (wpAny_bind (lk0.at (wpAny_bind (lk3.at ?_)))))
  show wpAny _ _ (holding [Value.builtin "object.__class__"] (call (.builtin "getset_descriptor.__get__") [.builtin "object.__class__", .ref x, .ref D]) >>= ret) _ _ _
  refine wpAny_bind (wpAny_holding (wpAny_call (class_get (s := ⟨hp, g, d, t + 1, os⟩) (ox := ox) (od := some od) X I C.hm ?_)))
  refine wpAny_pure ?_
  show wpAny _ _ (handedOut (.ref D)) _ _ _
  rw [handedOut_of (v := .ref D) rfl]
  first | exact wpAny_pure (wpAny_pure h) | exact wpAny_pure h | exact wpAny_pure (wpAny_bind (wpAny_pure (wpAny_pure h)))
open PySem.W PySem.Calls in
theorem kit_err (C : ExcC K D) : KitX K (.ref x) (.ref D) (fun h => PySem.W.InstAt h x ox D (some od)) := by
  obtain ⟨cd, hcd, _⟩ := any_some C.hd
  have lk : ∃ o, K.lookup D = some o ∧ (∀ c d its n sl, o ≠ ⟨c, d, .seq its n, sl⟩) ∧ ∀ {M : Model} {h : Heap}, K.In h → Looks M h (isType (.ref D)) true := by
    unfold clsIn at hcd
    split at hcd
    · rename_i c' d' cd' sl' ho
      refine ⟨_, ho, (fun c d its n sl z => by cases z), fun {M h} X => ?_⟩
      intro A' Q' E' s' k q
      unfold isType loadHead
      exact wpAny_bind (wpAny_loadPart (k _ _ (X _ _ ho)) (wpAny_pure q))
    · cases hcd
  obtain ⟨o, ho, hne, hty⟩ := lk
  refine ⟨fun _ _ _ I => I.type, fun _ _ X _ => hty X, fun h tp dd its n sl X e => Bool.eq_false_iff.mpr fun q => ?_, fun X I k => cls_err C X I k⟩
  have e2 : D = tp := Value.ref.inj (beq_iff_eq.mp q)
  subst e2
  have z := (X _ _ ho).symm.trans e
  exact hne _ _ _ _ _ (Option.some.inj z)
end
section
variable {X : Cx} {K : PySem.W.Frag} {a : Addr} {oe : Obj} {cls : Value} {d : Option Addr} {pn : List (Addr × Obj)}
/-- the error that is held: its class, its dict -/
def IsErr (K : PySem.W.Frag) (cls : Value) (d : Option Addr) (D : Addr) (H : Hp) : Prop := cls = .ref D ∧ ExcC K D ∧ ∃ dd fs, d = some dd ∧ H dd = some (.xd fs)
theorem err_inst {pins : List (Addr × Obj)} {σ : L2.St} {H : Hp} {s : Shared} {D : Addr} (hz : Zc cls d oe) (hf : ∃ vs, oe.data = .fields vs) (I : Inv (X.suite a ((a, oe) :: pn)) pins σ H s) (h : IsErr X.K cls d D H) :
    ExcC X.K D ∧ ∃ od, PySem.W.InstAt s.heap a oe D (some od) := by
  obtain ⟨ec, C, dd, fs, ed, hd⟩ := h
  obtain ⟨ha, _⟩ := I.pin (a, oe) (List.mem_append_left _ List.mem_cons_self)
  obtain ⟨vs, hv⟩ := hf
  obtain ⟨z1, z2⟩ := hz
  have hx : ObjOk X.prog X.w H s.heap dd (.xd fs) := I.hok dd _ hd
  obtain ⟨mA, hns, _⟩ := hx
  obtain ⟨od, ho, _⟩ := lookIn_ns hns
  exact ⟨C, od, ha, z1.trans ec, by unfold PySem.W.notCls; rw [hv] <;> rfl, by rw [z2, ed]; exact ho⟩
def rIsX (K : PySem.W.Frag) (cls : Value) (d : Option Addr) (a : Addr) : List V → Hp → VK → Prop := fun xs H Q => ∃ (D : Addr) (c : V) (cv : Value) (b : Bool), xs = [.ref a, c] ∧ IsErr K cls d D H ∧ ClsV c cv ∧ PySem.W.kitOne K (.ref D) cv = some b ∧ Q (.bl b) H
theorem call_isX (hz : Zc cls d oe) (hf : ∃ vs, oe.data = .fields vs) : CallR (X.suite a ((a, oe) :: pn)) (.builtin "isinstance") (rIsX X.K cls d a) := by
  intro pins s σ H xs us Q I r h
  obtain ⟨D, c, cv, b, rfl, he, hcv, e, q⟩ := h
  obtain ⟨u1, u2, rfl, r1, r2⟩ := vals2 r
  cases (show u1 = Value.ref a from r1)
  have e2 := hcv.eq r2
  subst e2
  obtain ⟨C, od, J⟩ := err_inst hz hf I he
  exact PySem.W.kia_one (kit_err C) I.kIn J e (fun z => nomatch z) fun tk => ⟨.bl b, H, I.kept (t' := tk) fun _ _ z => z, rfl, q⟩
def rIsXT (K : PySem.W.Frag) (cls : Value) (d : Option Addr) (a : Addr) : List V → Hp → VK → Prop := fun xs H Q => ∃ (D tp : Addr) (cs : List V) (ws : List Value) (b : Bool), xs = [.ref a, .ref tp] ∧ IsErr K cls d D H ∧ H tp = some (.tup cs) ∧ Paired ClsV cs ws ∧ PySem.W.kitAny K (.ref D) ws = some b ∧ Q (.bl b) H
theorem call_isXT (hz : Zc cls d oe) (hf : ∃ vs, oe.data = .fields vs) : CallR (X.suite a ((a, oe) :: pn)) (.builtin "isinstance") (rIsXT X.K cls d a) := by
  intro pins s σ H xs us Q I r h
  obtain ⟨D, tp, cs, ws, b, rfl, he, hT, k, e, q⟩ := h
  obtain ⟨u1, u2, rfl, r1, r2⟩ := vals2 r
  cases (show u1 = Value.ref a from r1)
  cases (show u2 = Value.ref tp from r2)
  obtain ⟨C, od, J⟩ := err_inst hz hf I he
  obtain ⟨_, its, rv, o, h1, h2, n, h3⟩ := (show ObjOk X.prog X.w H s.heap tp (.tup cs) from I.hok tp _ hT)
  have e3 := ClsV.all k rv
  subst e3
  obtain ⟨oc, od', dt, sl⟩ := o
  simp only at h2 h3
  subst h2 h3
  exact PySem.W.kia_tup (kit_err C) I.kIn J h1 e (fun z => nomatch z) fun tk => ⟨.bl b, H, I.kept (t' := tk) fun _ _ z => z, rfl, q⟩
theorem kit_ve {D : Addr} (h : PySem.W.subIn K (.ref D) (.type "ValueError") = some true) : PySem.W.kitOne K (.ref D) (.type "ValueError") = some true := by
  unfold PySem.W.kitOne
  rw [if_neg (by intro z; cases beq_iff_eq.mp z)]
  show (if PySem.W.kitMeta "ValueError" = true then PySem.W.subIn K (.ref D) (.type "ValueError") else none) = _
  rw [if_pos (by decide +kernel), h]
theorem kit_self {D : Addr} : PySem.W.kitOne K (.ref D) (.ref D) = some true := by
  unfold PySem.W.kitOne
  rw [if_pos (by rw [beq_iff_eq])]
end
theorem sqt_same {K : PySem.W.Frag} {H H' : Hp} {a : Addr} {xs : List V} (e : Same H H') (h : SqT K H a xs) : SqT K H' a xs := by
  rcases h with (h | ⟨o, h⟩) | h
  · exact .inl (.inl (e _ _ h))
  · exact .inl (.inr ⟨o, e _ _ h⟩)
  · exact .inr h
mutual
theorem dp_same {K : PySem.W.Frag} {H H' : Hp} (e : Same H H') : ∀ (d : PyData) (v : V), Dp K H v d → Dp K H' v d
  | .none, _, h => by cases h; exact .non
  | .bool b, _, h => by cases h; exact .bl _
  | .int i, _, h => by cases h; exact .int _
  | .str x, _, h => by cases h; exact .str _
  | .list ds, _, h => by
    cases h with
    | lst s r => exact .lst (e.seq s) (dp_sames e ds _ r)
  | .tuple ds, _, h => by
    cases h with
    | tup s r => exact .tup (sqt_same e s) (dp_sames e ds _ r)
  | .dict _, _, h => by cases h
theorem dp_sames {K : PySem.W.Frag} {H H' : Hp} (e : Same H H') : ∀ (ds : List PyData) (vs : List V), DpAll K H vs ds → DpAll K H' vs ds
  | [], _, h => by cases h; exact .nil
  | d :: ds, _, h => by
    cases h with
    | cons a b => exact .cons (dp_same e d _ a) (dp_sames e ds _ b)
end
end Rn

set_option Elab.async false
set_option linter.all false
set_option maxRecDepth 100000
set_option maxHeartbeats 4000000
namespace Rn
open PySem PySem.Spec PyProof.Rows L2
/-! # errors: where the first invalid layer stands -/
def badAt (Ls : List Lay) : Option Nat := Ls.findIdx? (fun L => !L.ok)
theorem badAt_none {Ls : List Lay} (h : badAt Ls = none) : ∀ L ∈ Ls, L.ok = true := fun L hL => by
  have := List.findIdx?_eq_none_iff.mp h L hL
  simpa using this
theorem badAt_all {Ls : List Lay} (h : ∀ L ∈ Ls, L.ok = true) : badAt Ls = none := List.findIdx?_eq_none_iff.mpr fun L hL => by rw [h L hL]; rfl
theorem badAt_first {Ls : List Lay} {i : Nat} (hi : i < Ls.length) (h : Ls[i].ok = false) (h0 : ∀ j : Nat, j < i → ∀ L, Ls[j]? = some L → L.ok = true) : badAt Ls = some i := by
  unfold badAt
  rw [List.findIdx?_eq_some_iff_getElem]
  refine ⟨hi, by rw [h]; rfl, fun j hj => ?_⟩
  have hjl : j < Ls.length := by omega
  rw [h0 j hj _ (List.getElem?_eq_getElem hjl)]
  decide
/-- the error of class C with this value ends the call -/
def Err (C : Addr) (v : V) (H : Hp) (E : XK) : Prop := ∀ H' d, Same H H' → H' d = some (.xd [(("value" : Str), v)]) → E (.ref C) (some d) H'
theorem Err.step {C : Addr} {v : V} {H H' : Hp} {E : XK} (h : Err C v H E) (s : Same H H') : Err C v H' E := fun H2 d s2 hd => h H2 d (s.trans s2) hd
end Rn
namespace Rn
open PySem PySem.Spec PyProof.Rows L2
/-- the same as a value -/
def badV (Ls : List Lay) : V := match badAt Ls with
  | none => .non
  | some i => .int (i : Nat)
/-- layers of which some have given way to invalid ones -/
def Bent (Ms Ls : List Lay) : Prop := Ms.length = Ls.length ∧ ∀ (i : Nat) M, Ms[i]? = some M → Ls[i]? = some M ∨ M.ok = false
theorem Bent.refl (Ls : List Lay) : Bent Ls Ls := ⟨rfl, fun _ _ h => .inl h⟩
theorem Bent.same {Ms Ls : List Lay} (h : Bent Ms Ls) (b : badAt Ms = none) : Ms = Ls := by
  refine List.ext_getElem? fun i => ?_
  cases e : Ms[i]? with
  | none => rw [List.getElem?_eq_none_iff] at e; rw [List.getElem?_eq_none_iff.mpr (by rw [← h.1]; exact e)]
  | some M =>
    rcases h.2 i M e with z | z
    · exact z.symm
    · rw [badAt_none b M (List.mem_of_getElem? e)] at z
      cases z
theorem Bent.set {Ms Ls : List Lay} (h : Bent Ms Ls) (i : Nat) {M : Lay} (b : M.ok = false) : Bent (Ms.set i M) Ls := by
  refine ⟨by rw [List.length_set]; exact h.1, fun j N hj => ?_⟩
  rw [List.getElem?_set] at hj
  split at hj
  · split at hj
    · cases hj
      exact .inr b
    · cases hj
  · exact h.2 j N hj
theorem nest_hid {a g p : Addr} {G : Hp} {Ls : List Lay} (h : NestAt (hid a g G) p Ls) : NestAt G p Ls := by
  obtain ⟨us, h1, h2, h3⟩ := h
  have l : Lays (hid a g G) us Ls := ⟨h2, h3⟩
  exact (l.carry fun x o _ e => (hid_get e).1).nest (hid_get h1).1
end Rn

set_option Elab.async false
set_option linter.all false
set_option maxRecDepth 100000
set_option maxHeartbeats 4000000
namespace Rn
open PySem PySem.Spec PyProof.Rows L2
/-! # counting flat values in a list; calls of a def that a list gives -/
section
variable {X : Cx}
def rCntV (K : PySem.W.Frag) : V → List V → Hp → VK → Prop := fun x xs H Q => ∃ (p : Addr) (ys : List V) (y : V), x = .ref p ∧ xs = [y] ∧ SqL K H p ys ∧ flatV y = true ∧ ys.all flatV = true ∧ Q (.int (ys.countP fun z => eqV z y : Nat)) H
theorem countP_rel {us : List Value} {ys : List V} {y : V} (rv : Vals ys us) (f : ys.all flatV = true) : us.countP (eqU y) = ys.countP fun z => eqV z y := by
  induction rv with
  | nil => rfl
  | cons r _ ih =>
    rw [List.all_cons, Bool.and_eq_true] at f
    rw [List.countP_cons, List.countP_cons, ih f.2, eqU_of r f.1]
theorem mt_countV {K : PySem.W.Frag} (hK : X.K = K) : MtR X "list.count" (rCntV K) := by
  subst hK
  intro pins s σ H x xs v us Q I rx rxs h
  obtain ⟨p, ys, y, rfl, rfl, hs, fy, fys, q⟩ := h
  cases rx
  cases rxs with
  | cons ry rt =>
    rename_i uy ut
    cases rt
    obtain ⟨its, rv, ⟨⟨cls, dd, data, sl⟩, n, ho, hc, hdn, hd⟩, hlen⟩ := I.list hs
    simp only at hc hd
    subst hc hd
    refine call_meets PySem.F.slot_list_count ⟨_, ho, rfl⟩ PySem.F.entry_list_count (PySem.F.args_list_count_2 _ _)
      (SeqAt.list_countAt p its.toArray n dd sl uy (eqU y)) ⟨ho, fun u' hu' => mem_eqAt ry fy rv fys u' (by simpa using hu'), ?_⟩
    have ec : its.toArray.toList.countP (eqU y) = ys.countP fun z => eqV z y := countP_rel rv fys
    refine ⟨.int (ys.countP fun z => eqV z y : Nat), H, I.tok _, ⟨s.toks, ?_⟩, q⟩
    show Value.int ((its.toArray.toList.countP (eqU y) : Nat) : Int) s.toks = Value.int ((ys.countP fun z => eqV z y : Nat) : Int) s.toks
    rw [ec]
theorem mt_indexK {K : PySem.W.Frag} (hK : X.K = K) : MtR X "list.index" (rIndex K) := by
  subst hK
  exact mt_index
theorem pe_bmK {K : PySem.W.Frag} (hK : X.K = K) {o e : Expr} {es : List Expr} {to : TE} {t : TA} {name : Str} {apos cpos : Pos} {T id : String} {r : V → List V → Hp → VK → Prop}
    (pa : PlainAttrs T) (slot : Slot T name id) (hty : typeOf (.builtin id) = pure (.type "method_descriptor")) (hm : MtR X id r) (ho : PE X o to) (ha : PA X (e :: es) t)
    (hbase : attributeBase o name X.env (eval o X.env) = eval o X.env := by rfl)
    (hfew : ((backTo cpos (starEach (e :: es) X.env)).all (fun x => !x.1) && (backToKw cpos (keywordEach [] X.env)).all (fun x => x.1.isSome)
      && decide ((e :: es).length + ([] : List Keyword).length + (if ([] : List Keyword).isEmpty then 0 else 1) < 30)) = true := by rfl)
    (hline : (apos.endLine == cpos.line) = true := by rfl) (hs : starEach (e :: es) X.env = (false, eval e X.env) :: starEach es X.env := by rfl) (hplain : (backTo cpos (starEach es X.env)).any (·.1) = false := by rfl) :
    PE X (.Call (.Attribute o name apos) (e :: es) [] cpos) (tBM K T r to t) := by
  subst hK
  exact pe_bm pa slot hty hm ho ha hbase hfew hline hs hplain
/-- a def that can be called here -/
def Callee (X : Cx) (CX : CXT) (k : Nat) (f : Addr) (sp : Sp) : Prop := ∃ (fd : FuncData) (ps : List Str), FnOk X.prog X.w X.K X.mg X.base CX k f fd ps sp ∧ PySem.W.keepIn X.K (.ref f) = true ∧ Binds X.K fd ps []
def tCallF (S : Addr → Sp → Prop) (E : L2.St → XK) (tf : TE) (t : TA) : TE := fun σ H Q => tf σ H fun v H1 => ∃ (f : Addr) (sp : Sp), v = .ref f ∧ S f sp ∧ t σ H1 fun vs H2 => sp vs H2 Q (E σ)
theorem pe_callF {CX : CXT} {k : Nat} {S : Addr → Sp → Prop} {E : L2.St → XK} {fv fs : Expr} {fp pos : Pos} {e : Expr} {es : List Expr} {tf : TE} {t : TA} (hS : ∀ f sp, S f sp → Callee X CX k f sp) (hr : Room k X.A) (hx : ∀ σ, PassesAt CX X σ (E σ))
    (hf : PE X (.Subscript fv fs fp) tf) (ha : PA X (e :: es) t) (he : starEach (e :: es) X.env = (false, eval e X.env) :: starEach es X.env := by rfl) (hpl : (backTo pos (starEach es X.env)).any (·.1) = false := by rfl) :
    PE X (.Call (.Subscript fv fs fp) (e :: es) [] pos) (tCallF S E tf t) := by
  refine ⟨fun pins s σ H Q I h => ?_⟩
  have arm : eval (.Call (.Subscript fv fs fp) (e :: es) [] pos) X.env = (do callWith pos (← eval (.Subscript fv fs fp) X.env) [] (backTo pos (starEach (e :: es) X.env)) (backToKw pos (keywordEach [] X.env))) := rfl
  rw [arm]
  refine wpAny_bind (thn (hf.run pins s σ H _ I h) fun u s1 ⟨v, H1, I1, r1, q1⟩ => ?_)
  obtain ⟨f, sp, rfl, hs, q1⟩ := q1
  cases r1
  obtain ⟨fd, ps, F, kp, hb⟩ := hS f sp hs
  refine PySem.W.callWith_K (h₀ := X.base) I1.ok.mod.kin kp (thn (ha.run pos pins s1 σ H1 _ I1 q1) fun us s2 ⟨vs, H2, I2, r, q2⟩ => ⟨I2.kIn, ?_⟩) he hpl
  exact run_fnSD F hr hb .nil (hx σ) I2 r (by rw [List.append_nil]; exact q2)
end
/-- [f(x) for x in ns if p(x)], where a turn changes nothing -/
theorem lc_filtL {K : PySem.W.Frag} {a : Addr} {ns : List Int} {g : TG} {tt : TT} {te : TE} {vs : List Nat} {σ : L2.St} {H1 : Hp} {D : Addr} {Qd : Hp → Prop} (p : Int → Bool) (f : Int → V) (hD : H1 D = none) (ha : SqL K H1 a (ns.map V.int)) (hn : ns.length ≤ 50000)
    (hs : ∀ (i : Nat) x H (T : V → Hp → Prop) (F : Hp → Prop), ns[i]? = some x → Same H1 H → (p x = true → T (f x) H) → (p x = false → F H) → g (.int x) (wipe σ vs) H fun σ2 H2 => wipe σ2 vs = wipe σ vs ∧ tt σ2 H2 fun b H3 => if b = true then te σ2 H3 T else F H3)
    (hd : ∀ H2, Same H1 H2 → H2 D = some (.lst ((ns.filter p).map f)) → Qd H2) :
    ∃ W : Nat → Nat → Hp → Prop, (∃ m, W 0 m (upd H1 D (.lst []))) ∧ ∀ i m H, W i m H →
      ((Itl K a).stop i H ∧ Qd H) ∨ ((Itl K a).go i H ∧ ∃ Nx : Hp → Prop, (∀ H', Nx H' → ∃ m', m' < m ∧ W (i + 1) m' H') ∧ ∀ x H', (Itl K a).yld i H x H' → g x (wipe σ vs) H' fun σ2 H2 => wipe σ2 vs = wipe σ vs ∧ tt σ2 H2 fun b H3 =>
        if b = true then te σ2 H3 fun y H4 => ∃ acc, H4 D = some (.lst acc) ∧ acc.length < sizeLine ∧ Nx (upd H4 D (.lst (acc ++ [y]))) else Nx H3) := by
  refine lc_list (xs := ns.map V.int) (fun i H' => Same H1 H' ∧ H' D = some (.lst (((ns.take i).filter p).map f))) ⟨same_new hD, upd_same⟩ (fun i H _ h => h.1.seq ha) (fun i x H hx h => ?_) (fun H h => hd H h.1 ?_)
  · obtain ⟨sm, hd1⟩ := h
    rw [List.getElem?_map] at hx
    obtain ⟨c, hc, rfl⟩ := Option.map_eq_some_iff.mp hx
    have hi : i < ns.length := (List.getElem?_eq_some_iff.mp hc).1
    have tk : (ns.take (i + 1)).filter p = (ns.take i).filter p ++ (if p c = true then [c] else []) := by
      rw [List.take_add_one, hc, Option.toList_some, List.filter_append]
      congr 1
      rw [List.filter_cons, List.filter_nil]
    refine hs i c H _ _ hc sm (fun e => ?_) (fun e => ?_)
    · refine ⟨_, hd1, size_lt ?_, same_keep sm hD, ?_⟩
      · rw [List.length_map]
        have := List.length_filter_le p (ns.take i)
        rw [List.length_take] at this
        omega
      · rw [upd_same, tk, if_pos e, List.map_append]
        rfl
    · refine ⟨sm, ?_⟩
      rw [tk, if_neg (by rw [e]; exact Bool.false_ne_true), List.append_nil]
      exact hd1
  · have := h.2
    rw [List.length_map, List.take_length] at this
    exact this
/-! ## layers of any sign that can be shown -/
def Lay.seen (L : Lay) : Prop := match L with
  | .pol ns => ns.length ≤ 60 ∧ ∀ x ∈ ns, x.natAbs < 10 ^ 24
  | .con w n => w.natAbs < 10 ^ 24 ∧ n.natAbs < 10 ^ 24
theorem Lay.nice.seen {L : Lay} (h : L.nice) : L.seen := by
  obtain ⟨h0, h1⟩ := h
  cases L with
  | pol ns => exact ⟨h1.1, fun x hx => by have := h1.2 x hx; omega⟩
  | con w n =>
    rw [Lay.ok_con, Bool.and_eq_true, decide_eq_true_eq, decide_eq_true_eq] at h0
    have h1 : w < 1000000000000 ∧ n < 1000000000000000000000 := h1
    exact ⟨by omega, by omega⟩
theorem Shw.layF {L : Lay} (h : L.seen) : Shw L.dat 4860 2 := by
  cases L with
  | pol ns =>
    obtain ⟨h1, h2⟩ : ns.length ≤ 60 ∧ ∀ x ∈ ns, x.natAbs < 10 ^ 24 := h
    exact (Shw.nums h2).mono (by omega) (Nat.le_refl _)
  | con w n =>
    obtain ⟨h1, h2⟩ : w.natAbs < 10 ^ 24 ∧ n.natAbs < 10 ^ 24 := h
    refine (Shw.tuple (ds := [.int w, .int n]) (W := 80) (D := 1) fun d hd => ?_).mono (by show 2 * 81 ≤ 4860; decide) (Nat.le_refl _)
    simp only [List.mem_cons, List.not_mem_nil, or_false] at hd
    rcases hd with rfl | rfl
    · exact Shw.int h1
    · exact Shw.int h2
theorem Shw.nestF {Ls : List Lay} {m : Nat} (h : ∀ L ∈ Ls, L.seen) (hl : Ls.length ≤ m) : Shw (.list (Ls.map Lay.dat)) (m * 4861) 3 := by
  refine (Shw.list (ds := Ls.map Lay.dat) (W := 4860) (D := 2) fun d hd => ?_).mono (by rw [List.length_map]; exact Nat.mul_le_mul_right _ hl) (Nat.le_refl _)
  obtain ⟨L, hL, rfl⟩ := List.mem_map.mp hd
  exact Shw.layF (h L hL)
/-- layers of which some have given way -/
theorem Lays.set {G : Hp} {us : List V} {Ls : List Lay} (h : Lays G us Ls) (j : Nat) {v : V} {L : Lay} (hv : LayAt G v L) : Lays G (us.set j v) (Ls.set j L) := by
  refine ⟨by rw [List.length_set, List.length_set, h.1], fun i u M a b => ?_⟩
  rw [List.getElem?_set] at a b
  by_cases c : j = i
  · rw [if_pos c] at a b
    split at a
    · split at b
      · cases a
        cases b
        exact hv
      · cases b
    · cases a
  · rw [if_neg c] at a b
    exact h.2 i u M a b
theorem Lays.cons {G : Hp} {v : V} {us : List V} {L : Lay} {Ls : List Lay} (hv : LayAt G v L) (h : Lays G us Ls) : Lays G (v :: us) (L :: Ls) := ⟨by rw [List.length_cons, List.length_cons, h.1], fun i u M a b => by
  cases i with
  | zero =>
    cases a
    cases b
    exact hv
  | succ i => exact h.2 i u M a b⟩
theorem int_eq {i j : Int} {A B : Prop} (h1 : i = j → A) (h2 : i ≠ j → B) : if decide (V.int i = V.int j) = true then A else B :=
  ite2 (fun e => h1 (by have := of_decide_eq_true e; injection this)) (fun e => h2 fun z => e (decide_eq_true (by rw [z])))
theorem int_ne {i j : Int} {A B : Prop} (h1 : i ≠ j → A) (h2 : i = j → B) : if (!decide (V.int i = V.int j)) = true then A else B := by
  by_cases e : i = j
  · rw [e, decide_eq_true rfl]
    exact iteF (h2 e)
  · rw [decide_eq_false fun z => e (by injection z)]
    exact iteT (h1 e)
theorem bl_ne {b c : Bool} {A B : Prop} (h : b ≠ c) (x : B) : if decide (V.bl b = V.bl c) = true then A else B := by
  rw [decide_eq_false fun z => h (by injection z)]
  exact iteF x
theorem badV_some {Ls : List Lay} {i : Nat} (h : badAt Ls = some i) : badV Ls = .int (i : Nat) := by
  unfold badV
  rw [h]
theorem badV_none {Ls : List Lay} (h : badAt Ls = none) : badV Ls = .non := by
  unfold badV
  rw [h]
theorem bad_split {Ls : List Lay} {A B : Prop} (h1 : ∀ i : Nat, badAt Ls = some i → A) (h2 : badAt Ls = none → B) : if (!decide (badV Ls = V.non)) = true then A else B := by
  cases e : badAt Ls with
  | none =>
    rw [badV_none e]
    exact iteF (h2 e)
  | some i =>
    rw [badV_some e]
    exact iteT (h1 i e)
theorem tup_ok (x : Str) (z : Int) (hx : PyData.strOk x = true) : (PyData.tuple [.str x, .int z]).canLay0 = true ∧ SeqAt.shaped (PyData.tuple [.str x, .int z]) = true := by
  have : (PyData.tuple [.str x, .int z]).canLay0 = true := by simp only [PyData.canLay0, PyData.canLayAll0, Bool.and_true, hx]
  refine ⟨this, ?_⟩
  unfold SeqAt.shaped
  rw [this, Bool.true_and]
  simp only [PyData.depth, PyData.depthAll]
  rfl
end Rn

set_option Elab.async false
set_option linter.all false
set_option maxRecDepth 100000
set_option maxHeartbeats 4000000
namespace Rn
open PySem PySem.Spec PyProof.Rows L2
/-! # powers and roots -/
/-- a list of waits nested t times in itself -/
def repN (ws : List Int) : Nat → List Int
  | 0 => []
  | t + 1 => nestL (repN ws t) ws
def powL (xs : List Lay) (t : Nat) : List Lay := mergeL (List.replicate t xs).flatten
def powJ (xs : List Lay) : Nat → List Lay
  | 0 => []
  | t + 1 => joinL (powJ xs t) xs
theorem powJ_ok {xs : List Lay} (h : NF xs) : ∀ t, NF (powJ xs t) ∧ flatL (powJ xs t) = repN (flatL xs) t
  | 0 => ⟨nf_nil, rfl⟩
  | t + 1 => by
    obtain ⟨a, b⟩ := powJ_ok h t
    obtain ⟨c, d⟩ := join_ok a h
    exact ⟨c, by show flatL (joinL (powJ xs t) xs) = _; rw [d, b]; rfl⟩
theorem rep_nf {xs : List Lay} (h : ∀ L ∈ xs, L.nf) (t : Nat) : ∀ L ∈ (List.replicate t xs).flatten, L.nf := fun L hL => by
  obtain ⟨l, h1, h2⟩ := List.mem_flatten.mp hL
  rw [(List.mem_replicate.mp h1).2] at h2
  exact h L h2
theorem rep_snoc {α : Type} (xs : List α) (t : Nat) : (List.replicate (t + 1) xs).flatten = (List.replicate t xs).flatten ++ xs := by
  rw [List.replicate_succ', List.flatten_append, List.flatten_cons, List.flatten_nil, List.append_nil]
theorem flat_rep {xs : List Lay} (h : ∀ L ∈ xs, L.ok = true) : ∀ t, flatL (List.replicate t xs).flatten = repN (flatL xs) t
  | 0 => rfl
  | t + 1 => by
    rw [rep_snoc, flat_app _ h, flat_rep h t]
    · rfl
    · intro L hL
      obtain ⟨l, h1, h2⟩ := List.mem_flatten.mp hL
      rw [(List.mem_replicate.mp h1).2] at h2
      exact h L h2
theorem powL_ok {xs : List Lay} (h : NF xs) (t : Nat) : NF (powL xs t) ∧ flatL (powL xs t) = repN (flatL xs) t := by
  obtain ⟨a, b⟩ := merge_ok (rep_nf h.1 t)
  exact ⟨a, b.trans (flat_rep h.oks t)⟩
theorem powL_J {xs : List Lay} (h : NF xs) (t : Nat) : powL xs t = powJ xs t := by
  obtain ⟨a, b⟩ := powL_ok h t
  obtain ⟨c, d⟩ := powJ_ok h t
  exact nf_unique a c (b.trans d.symm)
theorem repN_len (ws : List Int) : ∀ t, (repN ws t).length + 1 = (ws.length + 1) ^ t
  | 0 => rfl
  | t + 1 => by
    show (nestL (repN ws t) ws).length + 1 = _
    rw [nestL_len, repN_len ws t, Nat.pow_succ]
theorem repN_add (ws : List Int) (s : Nat) : ∀ t, repN ws (s + t) = nestL (repN ws s) (repN ws t)
  | 0 => (nestL_nil _).symm
  | t + 1 => by
    show nestL (repN ws (s + t)) ws = nestL (repN ws s) (nestL (repN ws t) ws)
    rw [repN_add ws s t, nestL_assoc]
/-! shapes of powers -/
theorem powJ_con (w : Int) (n : Int) : ∀ t, powJ [.con w n] (t + 1) = [.con w (n ^ (t + 1))]
  | 0 => by
    show joinL [] [Lay.con w n] = _
    rw [nil_join, Int.pow_one]
  | t + 1 => by
    show joinL (powJ [.con w n] (t + 1)) [.con w n] = _
    rw [powJ_con w n t]
    have := join_seam [] w (n ^ (t + 1)) n []
    rw [← Int.pow_succ] at this
    exact this
theorem powJ_free {xs : List Lay} (hs : ¬ Seam xs xs) (h0 : xs ≠ []) : ∀ t, powJ xs t = (List.replicate t xs).flatten
  | 0 => rfl
  | t + 1 => by
    show joinL (powJ xs t) xs = _
    rw [powJ_free hs h0 t, rep_snoc]
    refine join_plain ?_
    rintro ⟨A, w, n, m, B, e1, e2⟩
    cases t with
    | zero => simp at e1
    | succ t =>
      rw [rep_snoc] at e1
      obtain ⟨ys, y, rfl⟩ : ∃ ys y, xs = ys ++ [y] := ⟨_, _, (List.dropLast_concat_getLast h0).symm⟩
      rw [← List.append_assoc] at e1
      have := (List.append_inj' e1 rfl).2
      cases this
      exact hs ⟨ys, w, n, m, B, rfl, e2⟩
theorem powJ_seam (w b a : Int) (M : List Lay) : ∀ t, powJ (.con w b :: (M ++ [.con w a])) (t + 1) = .con w b :: ((List.replicate t (M ++ [.con w (a * b)])).flatten ++ (M ++ [.con w a]))
  | 0 => rfl
  | t + 1 => by
    show joinL (powJ (.con w b :: (M ++ [.con w a])) (t + 1)) (.con w b :: (M ++ [.con w a])) = _
    rw [powJ_seam w b a M t]
    have := join_seam (.con w b :: ((List.replicate t (M ++ [.con w (a * b)])).flatten ++ M)) w a b (M ++ [.con w a])
    rw [show (Lay.con w b :: ((List.replicate t (M ++ [.con w (a * b)])).flatten ++ M)) ++ [.con w a] = .con w b :: ((List.replicate t (M ++ [.con w (a * b)])).flatten ++ (M ++ [.con w a])) by rw [List.cons_append, List.append_assoc]] at this
    rw [this, rep_snoc]
    rw [List.cons_append, List.append_assoc, List.append_assoc, List.append_assoc]
    rfl
theorem flatten_len {α : Type} (xs : List α) : ∀ t, (List.replicate t xs).flatten.length = t * xs.length
  | 0 => by simp
  | t + 1 => by rw [rep_snoc, List.length_append, flatten_len xs t, Nat.succ_mul]
/-- kinds of normal forms as bases of powers -/
theorem base_cases {xs : List Lay} (h : NF xs) (h0 : xs ≠ []) : (∃ w n, xs = [.con w n]) ∨ (∃ w b a M, xs = .con w b :: (M ++ [.con w a])) ∨ (¬ Seam xs xs ∧ ∀ w n, xs ≠ [.con w n]) := by
  by_cases s : Seam xs xs
  · obtain ⟨A, w, n, m, B, e1, e2⟩ := s
    cases A with
    | nil => exact .inl ⟨w, n, e1⟩
    | cons a A =>
      rw [e2] at e1
      injection e1 with e3 e4
      refine .inr (.inl ⟨w, m, n, A, ?_⟩)
      rw [e2, e4]
      rfl
  · exact .inr (.inr ⟨s, fun w n e => s ⟨[], w, n, n, [], e, e⟩⟩)
/-- what the program takes for the root -/
def guessL (ls : List Lay) (k : Nat) : List Lay := ls.take k ++ ls.drop (ls.length - 1)
theorem drop_last {α : Type} (A : List α) (x : α) : (A ++ [x]).drop ((A ++ [x]).length - 1) = [x] := by
  rw [List.length_append, List.length_singleton, Nat.add_sub_cancel, List.drop_left]
theorem root_guess {xs : List Lay} (h : NF xs) (h0 : xs ≠ []) {t : Nat} (ht : 1 ≤ t) (hc : ∀ w n, powJ xs t ≠ [.con w n]) :
    1 ≤ (powJ xs t).length / t ∧ (powJ xs t).length % t ≤ 1 ∧ guessL (powJ xs t) ((powJ xs t).length / t + (powJ xs t).length % t - 1) = xs := by
  obtain ⟨u, rfl⟩ : ∃ u, t = u + 1 := ⟨t - 1, by omega⟩
  rcases base_cases h h0 with ⟨w, n, rfl⟩ | ⟨w, b, a, M, rfl⟩ | ⟨hs, _⟩
  · exact absurd (powJ_con w n u) (hc _ _)
  · rw [powJ_seam]
    have hl : (Lay.con w b :: ((List.replicate u (M ++ [Lay.con w (a * b)])).flatten ++ (M ++ [.con w a]))).length = 1 + (u + 1) * (M.length + 1) := by
      rw [List.length_cons, List.length_append, flatten_len, List.length_append, List.length_append, List.length_singleton, List.length_singleton, Nat.succ_mul]
      omega
    have edl : (Lay.con w b :: ((List.replicate u (M ++ [Lay.con w (a * b)])).flatten ++ (M ++ [.con w a]))).drop ((Lay.con w b :: ((List.replicate u (M ++ [Lay.con w (a * b)])).flatten ++ (M ++ [.con w a]))).length - 1) = [.con w a] := by
      have := drop_last (Lay.con w b :: ((List.replicate u (M ++ [Lay.con w (a * b)])).flatten ++ M)) (.con w a)
      rw [List.cons_append, List.append_assoc] at this
      exact this
    unfold guessL
    rw [edl, hl]
    cases u with
    | zero =>
      rw [Nat.zero_add, Nat.div_one, Nat.mod_one, Nat.one_mul, List.replicate_zero, List.flatten_nil, List.nil_append]
      refine ⟨by omega, by omega, ?_⟩
      rw [show 1 + (M.length + 1) + 0 - 1 = M.length + 1 by omega, List.take_succ_cons, List.take_left]
      rfl
    | succ v =>
      have e1 : (1 + (v + 1 + 1) * (M.length + 1)) / (v + 1 + 1) = M.length + 1 := by
        rw [Nat.add_mul_div_left _ _ (by omega), Nat.div_eq_of_lt (by omega), Nat.zero_add]
      have e2 : (1 + (v + 1 + 1) * (M.length + 1)) % (v + 1 + 1) = 1 := by
        rw [Nat.add_mul_mod_self_left, Nat.mod_eq_of_lt (by omega)]
      rw [e1, e2]
      refine ⟨by omega, Nat.le_refl _, ?_⟩
      rw [show M.length + 1 + 1 - 1 = M.length + 1 by omega, List.take_succ_cons]
      rw [List.replicate_succ, List.flatten_cons, List.append_assoc, List.append_assoc, List.take_left]
      rfl
  · rw [powJ_free hs h0]
    have hl := flatten_len xs (u + 1)
    have s1 : 0 < xs.length := List.length_pos_iff.mpr h0
    have e1 : (List.replicate (u + 1) xs).flatten.length / (u + 1) = xs.length := by rw [hl]; exact Nat.mul_div_cancel_left _ (by omega)
    have e2 : (List.replicate (u + 1) xs).flatten.length % (u + 1) = 0 := by rw [hl]; exact Nat.mul_mod_right _ _
    rw [e1, e2]
    refine ⟨s1, by omega, ?_⟩
    unfold guessL
    obtain ⟨ys, y, rfl⟩ : ∃ ys y, xs = ys ++ [y] := ⟨_, _, (List.dropLast_concat_getLast h0).symm⟩
    have e3 : (List.replicate (u + 1) (ys ++ [y])).flatten.drop ((List.replicate (u + 1) (ys ++ [y])).flatten.length - 1) = [y] := by
      rw [rep_snoc, ← List.append_assoc]
      exact drop_last _ y
    rw [e3, List.length_append, List.length_singleton, show ys.length + 1 + 0 - 1 = ys.length by omega, List.replicate_succ, List.flatten_cons, List.append_assoc, List.take_left]
/-- the power of a guess that is no normal form is shorter -/
theorem pow_short {xs : List Lay} (h : ∀ L ∈ xs, L.nf) (t : Nat) : (powL xs t).length ≤ t * (mergeL xs).length := by
  obtain ⟨a, b⟩ := merge_ok h
  have e : powL xs t = powJ (mergeL xs) t := by
    obtain ⟨c, d⟩ := merge_ok (rep_nf h t)
    obtain ⟨e, f⟩ := powJ_ok a t
    refine nf_unique c e ?_
    rw [f, b]
    exact d.trans (flat_rep (fun L hL => (h L hL).ok) t)
  rw [e]
  induction t with
  | zero => exact Nat.zero_le _
  | succ t ih =>
    have e2 : powL xs t = powJ (mergeL xs) t := by
      obtain ⟨c, d⟩ := merge_ok (rep_nf h t)
      obtain ⟨e, f⟩ := powJ_ok a t
      refine nf_unique c e ?_
      rw [f, b]
      exact d.trans (flat_rep (fun L hL => (h L hL).ok) t)
    have := ih e2
    show (joinL (powJ (mergeL xs) t) (mergeL xs)).length ≤ _
    rw [Nat.succ_mul]
    rcases join_or (powJ (mergeL xs) t) (mergeL xs) with ⟨A, w, n, m, B, e1, e2, e3⟩ | ⟨_, e3⟩
    · rw [e3]
      have l1 := congrArg List.length e1
      have l2 := congrArg List.length e2
      rw [List.length_append, List.length_singleton] at l1
      rw [List.length_cons] at l2
      rw [List.length_append, List.length_cons]
      omega
    · rw [e3, List.length_append]
      omega
theorem merge_seam {A B : List Lay} (hA : NF A) (hB : NF B) (s : Seam A B) : (mergeL (A ++ B)).length + 1 = A.length + B.length := by
  rw [merge_join hA hB]
  obtain ⟨C, w, n, m, D, rfl, rfl⟩ := s
  rw [join_seam]
  simp only [List.length_append, List.length_cons, List.length_nil]
  omega
/-- a guess that passes the program's check is a normal form -/
theorem guess_nf {ls : List Lay} (h : NF ls) (h0 : ls ≠ []) {t : Nat} (ht : 1 ≤ t) (h1 : 1 ≤ ls.length / t) (h2 : ls.length % t ≤ 1) (e : powL (guessL ls (ls.length / t + ls.length % t - 1)) t = ls) :
    NF (guessL ls (ls.length / t + ls.length % t - 1)) := by
  obtain ⟨A, x, rfl⟩ : ∃ A x, ls = A ++ [x] := ⟨_, _, (List.dropLast_concat_getLast h0).symm⟩
  have dm := Nat.div_add_mod (A ++ [x]).length t
  have hlen : (A ++ [x]).length = A.length + 1 := by rw [List.length_append, List.length_singleton]
  generalize hs : (A ++ [x]).length / t = s at *
  generalize hr : (A ++ [x]).length % t = r at *
  have st : s ≤ t * s := Nat.le_mul_of_pos_left _ ht
  have kle : s + r - 1 ≤ A.length := by omega
  unfold guessL at e ⊢
  rw [drop_last] at e ⊢
  rw [List.take_append_of_le_length kle] at e ⊢
  obtain ⟨nA, nx, _⟩ := h.app
  have nk : NF (A.take (s + r - 1)) := by
    have : A = A.take (s + r - 1) ++ A.drop (s + r - 1) := (List.take_append_drop _ _).symm
    rw [this] at nA
    exact nA.app.1
  by_cases sm : Seam (A.take (s + r - 1)) [x]
  · exfalso
    have l1 := merge_seam nk nx sm
    have l2 := pow_short (xs := A.take (s + r - 1) ++ [x]) (fun L hL => (List.mem_append.mp hL).elim (nk.1 L) (nx.1 L)) t
    rw [e, hlen] at l2
    rw [List.length_take, List.length_singleton, Nat.min_eq_left kle] at l1
    have l3 : (mergeL (A.take (s + r - 1) ++ [x])).length = s + r - 1 := by omega
    rw [l3] at l2
    have hk : 1 ≤ s + r - 1 := by
      obtain ⟨B, w, n, m, C, e1, _⟩ := sm
      have := congrArg List.length e1
      rw [List.length_append, List.length_singleton, List.length_take, Nat.min_eq_left kle] at this
      omega
    rcases Nat.eq_zero_or_pos r with z | z
    · subst z
      have : t * (s + 0 - 1) + t = t * s := by
        rw [← Nat.mul_succ]
        congr 1
        omega
      omega
    · have : r = 1 := by omega
      subst this
      rw [show s + 1 - 1 = s by omega] at l2
      omega
  · exact nf_app nk nx sm
/-! whole roots of numbers -/
theorem am_gm (r x : Int) (hr : 0 ≤ r) (hx : 0 ≤ x) : ∀ t : Nat, ((t : Int) + 1) * r * x ^ t ≤ r ^ (t + 1) + (t : Int) * x ^ (t + 1)
  | 0 => by
    simp
    rw [Int.pow_one]
    exact Int.le_refl _
  | t + 1 => by
    have ih := am_gm r x hr hx t
    have h1 : ((t : Int) + 1) * r * x ^ t * r ≤ (r ^ (t + 1) + (t : Int) * x ^ (t + 1)) * r := Int.mul_le_mul_of_nonneg_right ih hr
    have h2 : 0 ≤ ((t : Int) + 1) * x ^ t * ((r - x) * (r - x)) := by
      refine Int.mul_nonneg (Int.mul_nonneg (by omega) (Int.pow_nonneg hx)) ?_
      rcases Int.le_total r x with z | z
      · have e : (r - x) * (r - x) = (x - r) * (x - r) := by
          rw [show r - x = -(x - r) by omega, Int.neg_mul_neg]
        rw [e]
        exact Int.mul_nonneg (by omega) (by omega)
      · exact Int.mul_nonneg (by omega) (by omega)
    have e1 : ((t : Int) + 1) * x ^ t * ((r - x) * (r - x)) = ((t : Int) + 1) * r * x ^ t * r - 2 * (((t : Int) + 1) * (r * x ^ (t + 1))) + ((t : Int) + 1) * x ^ (t + 2) := by
      rw [Int.pow_succ x (t + 1), Int.pow_succ x t]
      generalize x ^ t = y
      generalize (t : Int) + 1 = c
      rw [Int.sub_mul, Int.mul_sub, Int.mul_sub, Int.mul_sub, Int.mul_sub, Int.mul_sub]
      have a1 : c * y * (r * r) = c * r * y * r := by
        rw [Int.mul_assoc c y, Int.mul_assoc c r, Int.mul_assoc c, ← Int.mul_assoc y r r, Int.mul_comm y r]
      have a2 : c * y * (r * x) = c * (r * (y * x)) := by
        rw [Int.mul_assoc, ← Int.mul_assoc y r x, Int.mul_comm y r, Int.mul_assoc r y x]
      have a3 : c * y * (x * r) = c * (r * (y * x)) := by rw [Int.mul_comm x r, a2]
      have a4 : c * y * (x * x) = c * (y * x * x) := by rw [Int.mul_assoc, Int.mul_assoc y x x]
      rw [a1, a2, a3, a4]
      omega
    rw [e1] at h2
    have e2 : (r ^ (t + 1) + (t : Int) * x ^ (t + 1)) * r = r ^ (t + 2) + (t : Int) * (r * x ^ (t + 1)) := by
      rw [Int.add_mul, ← Int.pow_succ, Int.mul_assoc, Int.mul_comm (x ^ (t + 1)) r]
    rw [e2] at h1
    have e3 : (((t + 1 : Nat) : Int) + 1) * r * x ^ (t + 1) = ((t : Int) + 1) * (r * x ^ (t + 1)) + r * x ^ (t + 1) := by
      rw [Int.mul_assoc, show ((t + 1 : Nat) : Int) = (t : Int) + 1 by omega, Int.add_mul, Int.one_mul]
    have e4 : ((t + 1 : Nat) : Int) * x ^ (t + 1 + 1) = ((t : Int) + 1) * x ^ (t + 2) := by rw [show ((t + 1 : Nat) : Int) = (t : Int) + 1 by omega]
    have e5 : ((t : Int) + 1) * (r * x ^ (t + 1)) = (t : Int) * (r * x ^ (t + 1)) + r * x ^ (t + 1) := by rw [Int.add_mul, Int.one_mul]
    rw [e3, e4]
    show _ ≤ r ^ (t + 2) + _
    generalize r * x ^ (t + 1) = u at *
    generalize x ^ (t + 2) = v at *
    generalize r ^ (t + 2) = z at *
    generalize ((t : Int) + 1) * v = v' at *
    generalize (t : Int) * u = u' at *
    generalize ((t : Int) + 1) * r * x ^ t * r = y at *
    omega
/-- Newton's step -/
def newt (N : Int) (t : Nat) (x : Int) : Int := (((t : Int) - 1) * x + N / x ^ (t - 1)) / (t : Int)
theorem newt_ge {N r x : Int} {t : Nat} (ht : 1 ≤ t) (hr : 0 ≤ r) (hx : 1 ≤ x) (h : r ^ t ≤ N) : r ≤ newt N t x := by
  obtain ⟨u, rfl⟩ : ∃ u, t = u + 1 := ⟨t - 1, by omega⟩
  unfold newt
  rw [Nat.add_sub_cancel]
  have px : 0 < x ^ u := Int.pow_pos (by omega)
  rw [Int.le_ediv_iff_mul_le (by omega)]
  have ag := am_gm r x hr (by omega) u
  have key : (((u : Int) + 1) * r - (u : Int) * x) * x ^ u ≤ N := by
    rw [Int.sub_mul]
    have e : (u : Int) * x * x ^ u = (u : Int) * x ^ (u + 1) := by rw [Int.mul_assoc, Int.pow_succ, Int.mul_comm x]
    rw [e]
    omega
  have := (Int.le_ediv_iff_mul_le px).mpr key
  have e2 : ((u + 1 : Nat) : Int) = (u : Int) + 1 := by omega
  rw [e2, show (u : Int) + 1 - 1 = (u : Int) by omega, Int.mul_comm r]
  omega
theorem newt_lt {N r x : Int} {t : Nat} (ht : 1 ≤ t) (hr : 0 ≤ r) (hx : r < x) (h : N < (r + 1) ^ t) (hN : 0 ≤ N) : newt N t x < x := by
  obtain ⟨u, rfl⟩ : ∃ u, t = u + 1 := ⟨t - 1, by omega⟩
  unfold newt
  rw [Nat.add_sub_cancel]
  have px : 0 < x ^ u := Int.pow_pos (by omega)
  have h2 : (r + 1) ^ (u + 1) ≤ x ^ (u + 1) := by
    have : ∀ n : Nat, (r + 1) ^ n ≤ x ^ n := fun n => by
      induction n with
      | zero => simp
      | succ n ih =>
        rw [Int.pow_succ, Int.pow_succ]
        exact Int.mul_le_mul ih (by omega) (by omega) (Int.pow_nonneg (by omega))
    exact this _
  have h3 : N / x ^ u < x := by
    rw [Int.ediv_lt_iff_lt_mul px, Int.mul_comm, ← Int.pow_succ]
    exact Int.lt_of_lt_of_le h h2
  rw [Int.ediv_lt_iff_lt_mul (by omega)]
  have e2 : ((u + 1 : Nat) : Int) = (u : Int) + 1 := by omega
  rw [e2, show (u : Int) + 1 - 1 = (u : Int) by omega, Int.mul_add, Int.mul_one, Int.mul_comm x]
  omega
theorem floor_root (N : Nat) {t : Nat} (ht : 1 ≤ t) : ∃ r : Nat, r ^ t ≤ N ∧ N < (r + 1) ^ t := by
  have key : ∀ m : Nat, m ^ t ≤ N ∨ ∃ r : Nat, r ^ t ≤ N ∧ N < (r + 1) ^ t := by
    intro m
    induction m with
    | zero => exact .inl (by rw [Nat.zero_pow (by omega)]; exact Nat.zero_le _)
    | succ m ih =>
      rcases ih with z | z
      · by_cases c : (m + 1) ^ t ≤ N
        · exact .inl c
        · exact .inr ⟨m, z, by omega⟩
      · exact .inr z
  rcases key (N + 1) with z | z
  · have := Nat.pow_le_pow_right (show 0 < N + 1 by omega) ht
    rw [Nat.pow_one] at this
    omega
  · exact z
theorem Lays.rep {G : Hp} {us : List V} {Ls : List Lay} (h : Lays G us Ls) : ∀ t, Lays G (List.replicate t us).flatten (List.replicate t Ls).flatten
  | 0 => Lays.none G
  | t + 1 => by
    rw [rep_snoc, rep_snoc]
    exact (h.rep t).app h
theorem attOf_rep {Ls : List Lay} (h : ∀ L ∈ Ls, L.ok = true) : ∀ t, attOf (List.replicate t Ls).flatten = attOf Ls ^ t
  | 0 => by rw [Int.pow_zero]; rfl
  | t + 1 => by rw [rep_snoc, attOf_app, attOf_rep h t, Int.pow_succ]
theorem nf_empty {xs : List Lay} (h : NF xs) (e : flatL xs = []) : xs = [] := nf_unique h nf_nil e
theorem pow_empty {xs : List Lay} (h : NF xs) {t : Nat} (ht : 1 ≤ t) (e : powL xs t = []) : xs = [] := by
  obtain ⟨_, b⟩ := powL_ok h t
  rw [e] at b
  have l := repN_len (flatL xs) t
  rw [← b] at l
  have l : 0 + 1 = ((flatL xs).length + 1) ^ t := l
  refine nf_empty h ?_
  rcases Nat.eq_zero_or_pos (flatL xs).length with z | z
  · exact List.length_eq_zero_iff.mp z
  · exfalso
    have h2 : 2 ≤ (flatL xs).length + 1 := by omega
    have h3 : 2 ^ 1 ≤ ((flatL xs).length + 1) ^ t := Nat.le_trans (Nat.pow_le_pow_right (by decide) ht) (Nat.pow_le_pow_left h2 t)
    omega
theorem cut_last (xs : List V) : cutV xs (some (-1)) none = xs.drop (xs.length - 1) := by
  unfold cutV
  rw [HT.sIx_none]
  have e : HT.sIx xs.length 0 (some (-1)) = xs.length - 1 := by
    unfold HT.sIx
    simp
    omega
  rw [e]
  exact List.take_of_length_le (by rw [List.length_drop]; omega)
theorem noPy2 {i j : Int} {b : Nat} (h : 0 < j) (hb : j.natAbs < 2 ^ b) (h0 : 0 < b) (h9 : b ≤ 9000) : CDivP i j := ⟨h, PyProof.noPylong_of_log2 (wide_div (i := i) h hb h0 h9).2⟩
theorem bits_eq {N : Int} (h : 0 < N) : Builtin.Int.intBits N = N.natAbs.log2 + 1 := by
  unfold Builtin.Int.intBits
  rw [if_neg]
  intro z
  have := beq_iff_eq.mp z
  omega
/-! ## laws of joins -/
theorem ne_lays {Ls Ms : List Lay} {A B : Prop} (h : Ls = Ms) (b : B) : if (!PyData.eqv (.list (Ls.map Lay.dat)) (.list (Ms.map Lay.dat))) = true then A else B := by
  rw [eqv_lays, h, laysB_refl]
  exact iteF b
theorem nfL_app {Ls Ms : List Lay} (h : ∀ L ∈ Ls, L.ok = true) (h2 : ∀ L ∈ Ms, L.ok = true) : nfL (Ls ++ Ms) = joinL (nfL Ls) (nfL Ms) := by
  obtain ⟨a1, a2⟩ := nfL_ok h
  obtain ⟨b1, b2⟩ := nfL_ok h2
  obtain ⟨c1, c2⟩ := join_ok a1 b1
  exact nfL_is (fun L hL => (List.mem_append.mp hL).elim (h L) (h2 L)) c1 (by rw [c2, a2, b2, flat_app h h2])
theorem nfL_nil : nfL [] = [] := nfL_nf nf_nil
theorem woS_self {A : List Lay} (h : NF A) : woS A A = some [] := by
  have := woS_join h nf_nil
  rw [join_nil] at this
  exact this
theorem woS_nil (A : List Lay) : woS A [] = some A := rfl
theorem woS_out {A B : List Lay} (hA : NF A) (hB : NF B) : woS (joinL A B).reverse B.reverse = some A.reverse := by
  rw [join_rev]
  exact woS_join hB.rev hA.rev
theorem ciL_self : ∀ A : List Lay, ciL A A = A
  | [] => rfl
  | x :: A => by rw [ciL_cons_same, ciL_self A]
/-- behind the common part nothing is in common -/
theorem ciL_rest {ls ms xs ys : List Lay} (hl : NF ls) (hm : NF ms) (hx : NF xs) (hy : NF ys) (ex : joinL (ciL ls ms) xs = ls) (ey : joinL (ciL ls ms) ys = ms) : ciL xs ys = [] := by
  have hS : NF (ciL ls ms) := ciL_nf hl
  have hc : NF (ciL xs ys) := ciL_nf hx
  obtain ⟨x', nx', e1⟩ := ciL_div (ms := ys) hx
  obtain ⟨y', ny', e2⟩ := ciL_div (ms := xs) hy
  rw [ciL_comm] at e2
  obtain ⟨zs, nz, ez⟩ := ciL_max (ps := joinL (ciL ls ms) (ciL xs ys)) (join_ok hS hc).1 nx' ny'
  rw [join_assoc hS hc nx', join_assoc hS hc ny', e1, e2, ex, ey] at ez
  have f1 := (join_ok (join_ok hS hc).1 nz).2
  rw [ez, (join_ok hS hc).2] at f1
  have l1 := congrArg List.length f1
  have l2 := nestL_len (nestL (flatL (ciL ls ms)) (flatL (ciL xs ys))) (flatL zs)
  rw [nestL_len (flatL (ciL ls ms)) (flatL (ciL xs ys))] at l2
  rw [← l1] at l2
  refine nf_empty hc ?_
  generalize (flatL (ciL ls ms)).length = s at *
  generalize hcl : (flatL (ciL xs ys)).length = c at *
  generalize (flatL zs).length = z at *
  rcases Nat.eq_zero_or_pos c with y | y
  · exact List.length_eq_zero_iff.mp (hcl.trans y)
  · exfalso
    have h1 : (s + 1) * 2 ≤ (s + 1) * (c + 1) := Nat.mul_le_mul_left _ (by omega)
    have h2 : (s + 1) * (c + 1) * 1 ≤ (s + 1) * (c + 1) * (z + 1) := Nat.mul_le_mul_left _ (by omega)
    omega
theorem pow_inj {a b t : Nat} (ht : 1 ≤ t) (h : a ^ t = b ^ t) : a = b := by
  rcases Nat.lt_trichotomy a b with z | z | z
  · have := Nat.pow_lt_pow_left z (show t ≠ 0 by omega)
    omega
  · exact z
  · have := Nat.pow_lt_pow_left z (show t ≠ 0 by omega)
    omega
theorem repN_inj {ws vs : List Int} {t : Nat} (ht : 1 ≤ t) (h : repN ws t = repN vs t) : ws = vs := by
  have l1 := repN_len ws t
  have l2 := repN_len vs t
  rw [h, l2] at l1
  have e := pow_inj ht l1
  obtain ⟨u, rfl⟩ : ∃ u, t = u + 1 := ⟨t - 1, by omega⟩
  have h : nestL (repN ws u) ws = nestL (repN vs u) vs := h
  have l3 := repN_len ws u
  have l4 := repN_len vs u
  rw [← e] at l3
  exact (nestL_inj (by omega) h).2
theorem powL_inj {xs ys : List Lay} (hx : NF xs) (hy : NF ys) {t : Nat} (ht : 1 ≤ t) (h : powL xs t = powL ys t) : xs = ys := by
  have e1 := (powL_ok hx t).2
  have e2 := (powL_ok hy t).2
  rw [h, e2] at e1
  exact nf_unique hx hy (repN_inj ht e1.symm)
theorem fit_nice {Ls : List Lay} (h : ∀ L ∈ Ls, L.nice) (hl : Ls.length ≤ 80) : Fit Ls := by
  refine ⟨fun L hL => (h L hL).1, by omega, ?_, fun ns hns => ?_⟩
  · have := (attOf_lt _ Ls rfl fun L hL => ⟨(h L hL).1, nice_cnt (h L hL)⟩).2
    exact Nat.lt_of_lt_of_le this (Nat.pow_le_pow_right (by decide) (by omega))
  · have := (h _ hns).2
    have : ns.length ≤ 60 := this.1
    omega
/-! ## lists in normal forms are no longer than those they come from -/
def Short (m : Nat) (Ls : List Lay) : Prop := ∀ ns, Lay.pol ns ∈ Ls → ns.length ≤ m
theorem push_pol {acc : List Lay} {L : Lay} {ns : List Int} (h : Lay.pol ns ∈ pushL acc L) : Lay.pol ns ∈ acc ∨ Lay.pol ns = L := by
  rcases push_cases acc L with ⟨A, w, n, m, rfl, rfl, e⟩ | ⟨e, _⟩
  · rw [e] at h
    rcases List.mem_append.mp h with z | z
    · exact .inl (List.mem_append_left _ z)
    · cases (List.mem_singleton.mp z)
  · rw [e] at h
    rcases List.mem_append.mp h with z | z
    · exact .inl z
    · exact .inr (List.mem_singleton.mp z)
theorem fold_pol {ns : List Int} : ∀ (ls : List Lay) {acc : List Lay}, Lay.pol ns ∈ ls.foldl pushL acc → Lay.pol ns ∈ acc ∨ Lay.pol ns ∈ ls
  | [], acc, h => .inl h
  | L :: ls, acc, h => by
    rcases fold_pol ls h with z | z
    · rcases push_pol z with y | y
      · exact .inl y
      · exact .inr (by rw [y]; exact List.mem_cons_self)
    · exact .inr (List.mem_cons_of_mem _ z)
theorem merge_short {m : Nat} {ls : List Lay} (h : Short m ls) : Short m (mergeL ls) := fun ns hn => by
  rcases fold_pol ls hn with z | z
  · cases z
  · exact h ns z
theorem parts_short {ws : List Int} {ls : List Lay} (h : Parts ws ls) : Short ws.length ls := by
  induction h with
  | nil => exact fun ns z => nomatch z
  | con h0 hm hc t ih =>
    intro ns hn
    rcases List.mem_cons.mp hn with e | e
    · cases e
    · exact Nat.le_trans (ih ns e) (pks_len _ _ _ (by have := (sm_per hm h0).1; omega))
  | pol h0 hm hc t ih =>
    intro ns hn
    rcases List.mem_cons.mp hn with e | e
    · cases e
      unfold blk
      rw [List.length_take, List.length_drop]
      omega
    · exact Nat.le_trans (ih ns e) (pks_len _ _ _ (by have := (sm_per hm h0).1; omega))
theorem parts_all {m : Nat} : ∀ {Ls : List Lay}, (∀ L ∈ Ls, L.ok = true) → Short m Ls → ∃ Ps, (∀ L ∈ Ps, L.nf) ∧ flatL Ps = flatL Ls ∧ Short m Ps
  | [], _, _ => ⟨[], (fun _ z => nomatch z), rfl, fun _ z => nomatch z⟩
  | L :: Ls, h, hs => by
    obtain ⟨Ps, p1, p2, p3⟩ := parts_all (fun M hM => h M (List.mem_cons_of_mem _ hM)) (fun ns hn => hs ns (List.mem_cons_of_mem _ hn))
    have one : ∃ Qs, (∀ M ∈ Qs, M.nf) ∧ flatL Qs = L.waits ∧ Short m Qs := by
      have hL := h L List.mem_cons_self
      cases L with
      | pol ns =>
        obtain ⟨ls, hls⟩ := parts_exist _ ns (Nat.le_refl _)
        rw [Lay.ok_pol, List.all_eq_true] at hL
        obtain ⟨a, b⟩ := parts_ok hls fun x hx => of_decide_eq_true (hL x hx)
        exact ⟨ls, a, b, fun us hu => Nat.le_trans (parts_short hls us hu) (hs ns List.mem_cons_self)⟩
      | con w n =>
        rw [Lay.ok_con, Bool.and_eq_true] at hL
        have w0 := of_decide_eq_true hL.1
        have n1 := of_decide_eq_true hL.2
        by_cases c : n = 1
        · subst c
          exact ⟨[], (fun _ z => nomatch z), rfl, fun _ z => nomatch z⟩
        · refine ⟨[.con w n], fun M hM => ?_, flatL_con w0 n1, fun us hu => ?_⟩
          · rw [List.mem_singleton.mp hM]
            exact ⟨w0, by omega⟩
          · cases (List.mem_singleton.mp hu)
    obtain ⟨Qs, q1, q2, q3⟩ := one
    refine ⟨Qs ++ Ps, fun M hM => (List.mem_append.mp hM).elim (q1 M) (p1 M), ?_, fun ns hn => (List.mem_append.mp hn).elim (q3 ns) (p3 ns)⟩
    rw [flat_app (fun M hM => (q1 M hM).ok) (fun M hM => (p1 M hM).ok), q2, p2, flatL_cons h]
theorem nfL_short {m : Nat} {Ls : List Lay} (h : ∀ L ∈ Ls, L.ok = true) (hs : Short m Ls) : Short m (nfL Ls) := by
  obtain ⟨Ps, p1, p2, p3⟩ := parts_all h hs
  obtain ⟨a, b⟩ := merge_ok p1
  rw [nfL_is h a (b.trans p2)]
  exact merge_short p3
theorem ciL_pol {ns : List Int} : ∀ {ls ms : List Lay}, Lay.pol ns ∈ ciL ls ms → Lay.pol ns ∈ ls
  | [], ms, h => by
    have : ciL [] ms = [] := by cases ms <;> rfl
    rw [this] at h
    exact h
  | x :: ls, [], h => by cases h
  | x :: ls, y :: ms, h => by
    unfold ciL at h
    by_cases c : layB x y = true
    · rw [if_pos c] at h
      rcases List.mem_cons.mp h with z | z
      · rw [z]
        exact List.mem_cons_self
      · exact List.mem_cons_of_mem _ (ciL_pol z)
    · rw [if_neg c] at h
      rcases ciO_cases c with z | ⟨w, n, m, rfl, rfl, _, z⟩
      · rw [z] at h
        cases h
      · rw [z] at h
        cases (List.mem_singleton.mp h)
theorem join_pol {ps xs : List Lay} {ns : List Int} : Lay.pol ns ∈ joinL ps xs ↔ (Lay.pol ns ∈ ps ∨ Lay.pol ns ∈ xs) := by
  rcases join_or ps xs with ⟨A, w, n, m, B, rfl, rfl, e⟩ | ⟨_, e⟩
  · rw [e]
    simp only [List.mem_append, List.mem_cons, List.not_mem_nil, or_false, reduceCtorEq, false_or]
  · rw [e, List.mem_append]
theorem fit_nf {Ls : List Lay} (n : NF Ls) (h : (attOf Ls).natAbs < 2 ^ 9000) (s : Short 20000 Ls) : Fit Ls := by
  refine ⟨n.oks, ?_, h, s⟩
  have h1 := nf_pow2 n.1
  have h2 := flatL_len _ Ls rfl n.oks
  have h4 : 2 ^ Ls.length < 2 ^ 9000 := by
    generalize 2 ^ 9000 = B at *
    generalize 2 ^ Ls.length = C at *
    omega
  have := (Nat.pow_lt_pow_iff_right (by decide)).mp h4
  omega
theorem att_join {ps xs : List Lay} (hp : NF ps) (hx : NF xs) : attOf (joinL ps xs) = attOf ps * attOf xs := by
  obtain ⟨a, b⟩ := join_ok hp hx
  have e1 := flatL_len _ _ rfl a.oks
  have e2 := flatL_len _ _ rfl hp.oks
  have e3 := flatL_len _ _ rfl hx.oks
  have e4 := nestL_len (flatL ps) (flatL xs)
  rw [b] at e1
  rw [← e1, ← e2, ← e3]
  exact_mod_cast e4
theorem att_part {ps xs : List Lay} (hp : NF ps) (hx : NF xs) : attOf ps ≤ attOf (joinL ps xs) ∧ attOf xs ≤ attOf (joinL ps xs) := by
  rw [att_join hp hx]
  have p1 := attOf_pos hp.oks
  have p2 := attOf_pos hx.oks
  have h1 := Int.mul_le_mul_of_nonneg_left p2 (show 0 ≤ attOf ps by omega)
  have h2 := Int.mul_le_mul_of_nonneg_right p1 (show 0 ≤ attOf xs by omega)
  omega
theorem nice_70 {L : Lay} (h : L.nice) : L.cnt < 2 ^ 70 := by
  obtain ⟨h0, h1⟩ := h
  cases L with
  | pol ns =>
    have : ns.length ≤ 60 := h1.1
    show (ns.length : Int) + 1 < 2 ^ 70
    omega
  | con w n =>
    have : n < 1000000000000000000000 := h1.2
    show n < 2 ^ 70
    omega
theorem att_two {Ls : List Lay} (h : ∀ L ∈ Ls, L.nice) (hl : Ls.length ≤ 2) : 1 ≤ attOf Ls ∧ attOf Ls < 2 ^ 140 := by
  refine ⟨attOf_pos fun L hL => (h L hL).1, ?_⟩
  match Ls, h, hl with
  | [], _, _ => decide
  | [L], h, _ =>
    have := nice_70 (h L List.mem_cons_self)
    show 1 * L.cnt < 2 ^ 140
    omega
  | [L, M], h, _ =>
    have a := nice_70 (h L List.mem_cons_self)
    have b := nice_70 (h M (List.mem_cons_of_mem _ List.mem_cons_self))
    have c := LayAt.con_pos (h L List.mem_cons_self).1
    have d := LayAt.con_pos (h M (List.mem_cons_of_mem _ List.mem_cons_self)).1
    show 1 * L.cnt * M.cnt < 2 ^ 140
    rw [Int.one_mul]
    have e : L.cnt * M.cnt ≤ L.cnt * 2 ^ 70 := Int.mul_le_mul_of_nonneg_left (by omega) (by omega)
    have f : L.cnt * 2 ^ 70 < 2 ^ 70 * 2 ^ 70 := Int.mul_lt_mul_of_pos_right a (by decide)
    have g : (2 : Int) ^ 70 * 2 ^ 70 = 2 ^ 140 := by decide
    omega
theorem att_pow {xs : List Lay} (h : NF xs) (t : Nat) : attOf (powL xs t) = attOf xs ^ t := by
  obtain ⟨a, b⟩ := powL_ok h t
  have e1 := flatL_len _ _ rfl a.oks
  have e2 := flatL_len _ _ rfl h.oks
  have e3 := repN_len (flatL xs) t
  rw [b] at e1
  rw [← e1, ← e2]
  exact_mod_cast e3
theorem pow_short' {m : Nat} {xs : List Lay} (h : Short m xs) (t : Nat) : Short m (powL xs t) := merge_short fun ns hn => by
  obtain ⟨l, h1, h2⟩ := List.mem_flatten.mp hn
  rw [(List.mem_replicate.mp h1).2] at h2
  exact h ns h2
end Rn


namespace Rn
open PySem PySem.Spec PyProof.Rows L2
/-! ## the text -/
def topS (i : Nat) : Stmt := PySem.Challenge.pw_retrynest_k16_whole_large_layers.main.body.getD i (.Pass ⟨0, 0, 0, 0⟩)
abbrev s_first_negative : Stmt := topS 6
abbrev s_check_waits : Stmt := topS 7
abbrev s_is_valid_layer : Stmt := topS 8
abbrev s_check_nesting : Stmt := topS 9
abbrev s_repeats : Stmt := topS 11
abbrev s_is_inner_number : Stmt := topS 12
abbrev s_smallest_inner_number : Stmt := topS 14
abbrev s_list_parts : Stmt := topS 15
abbrev s_layer_parts : Stmt := topS 16
abbrev s_same_constant : Stmt := topS 17
abbrev s_merged : Stmt := topS 18
abbrev s_normal_form : Stmt := topS 19
abbrev s_is_unsplittable : Stmt := topS 20
abbrev s_same_policy : Stmt := topS 21
abbrev s_check_size : Stmt := topS 24
abbrev s_nested : Stmt := topS 25
abbrev s_layer_attempts : Stmt := topS 26
abbrev s_layer_waits : Stmt := topS 27
abbrev s_attempts : Stmt := topS 28
abbrev s_flatten : Stmt := topS 29
abbrev s_law_rng : Stmt := topS 31
abbrev s_law_draw : Stmt := topS 32
abbrev s_law_flat : Stmt := topS 33
abbrev s_law_single : Stmt := topS 34
abbrev s_law_layer : Stmt := topS 35
abbrev s_law_due : Stmt := topS 36
abbrev s_law_changed : Stmt := topS 37
abbrev s_law_sorted : Stmt := topS 38
abbrev s_law_flat_right : Stmt := topS 39
abbrev s_law : Stmt := topS 40
theorem sc_first_negative : FnScope ["waits", "index", "wait"] ["waits"] (defScope s_first_negative) := ⟨rfl, rfl, rfl, by decide +kernel, rfl, by decide +kernel, by decide +kernel⟩
theorem sc_check_waits : FnScope ["waits", "index"] ["waits"] (defScope s_check_waits) := ⟨rfl, rfl, rfl, by decide +kernel, rfl, by decide +kernel, by decide +kernel⟩
theorem sc_is_valid_layer : FnScope ["layer", "wait", "count"] ["layer"] (defScope s_is_valid_layer) := ⟨rfl, rfl, rfl, by decide +kernel, rfl, by decide +kernel, by decide +kernel⟩
theorem sc_check_nesting : FnScope ["nesting", "index", "layer"] ["nesting"] (defScope s_check_nesting) := ⟨rfl, rfl, rfl, by decide +kernel, rfl, by decide +kernel, by decide +kernel⟩
theorem sc_repeats : FnScope ["waits", "number", "block", "start"] ["waits", "number"] (defScope s_repeats) := ⟨rfl, rfl, rfl, by decide +kernel, rfl, by decide +kernel, by decide +kernel⟩
theorem sc_is_inner_number : FnScope ["waits", "number"] ["waits", "number"] (defScope s_is_inner_number) := ⟨rfl, rfl, rfl, by decide +kernel, rfl, by decide +kernel, by decide +kernel⟩
theorem sc_smallest_inner_number : FnScope ["waits", "count", "number"] ["waits"] (defScope s_smallest_inner_number) := ⟨rfl, rfl, rfl, by decide +kernel, rfl, by decide +kernel, by decide +kernel⟩
theorem sc_list_parts : FnScope ["waits", "parts", "rest", "number", "part"] ["waits"] (defScope s_list_parts) := ⟨rfl, rfl, rfl, by decide +kernel, rfl, by decide +kernel, by decide +kernel⟩
theorem sc_layer_parts : FnScope ["layer"] ["layer"] (defScope s_layer_parts) := ⟨rfl, rfl, rfl, by decide +kernel, rfl, by decide +kernel, by decide +kernel⟩
theorem sc_same_constant : FnScope ["first", "second"] ["first", "second"] (defScope s_same_constant) := ⟨rfl, rfl, rfl, by decide +kernel, rfl, by decide +kernel, by decide +kernel⟩
theorem sc_merged : FnScope ["layers", "found", "layer", "wait", "count"] ["layers"] (defScope s_merged) := ⟨rfl, rfl, rfl, by decide +kernel, rfl, by decide +kernel, by decide +kernel⟩
theorem sc_normal_form : FnScope ["nesting", "layer", "part"] ["nesting"] (defScope s_normal_form) := ⟨rfl, rfl, rfl, by decide +kernel, rfl, by decide +kernel, by decide +kernel⟩
theorem sc_is_unsplittable : FnScope ["waits"] ["waits"] (defScope s_is_unsplittable) := ⟨rfl, rfl, rfl, by decide +kernel, rfl, by decide +kernel, by decide +kernel⟩
theorem sc_same_policy : FnScope ["first", "second"] ["first", "second"] (defScope s_same_policy) := ⟨rfl, rfl, rfl, by decide +kernel, rfl, by decide +kernel, by decide +kernel⟩
theorem sc_check_size : FnScope ["total"] ["total"] (defScope s_check_size) := ⟨rfl, rfl, rfl, by decide +kernel, rfl, by decide +kernel, by decide +kernel⟩
theorem sc_nested : FnScope ["inner", "outer", "waits", "wait"] ["inner", "outer"] (defScope s_nested) := ⟨rfl, rfl, rfl, by decide +kernel, rfl, by decide +kernel, by decide +kernel⟩
theorem sc_layer_attempts : FnScope ["layer"] ["layer"] (defScope s_layer_attempts) := ⟨rfl, rfl, rfl, by decide +kernel, rfl, by decide +kernel, by decide +kernel⟩
theorem sc_layer_waits : FnScope ["layer", "wait", "count"] ["layer"] (defScope s_layer_waits) := ⟨rfl, rfl, rfl, by decide +kernel, rfl, by decide +kernel, by decide +kernel⟩
theorem sc_attempts : FnScope ["nesting", "total", "layer"] ["nesting"] (defScope s_attempts) := ⟨rfl, rfl, rfl, by decide +kernel, rfl, by decide +kernel, by decide +kernel⟩
theorem sc_flatten : FnScope ["nesting", "waits", "layer"] ["nesting"] (defScope s_flatten) := ⟨rfl, rfl, rfl, by decide +kernel, rfl, by decide +kernel, by decide +kernel⟩
theorem sc_law_rng : FnScope ["script", "digits", "seed", "cell", "size"] ["script"] (defScope s_law_rng) := ⟨rfl, rfl, rfl, by decide +kernel, rfl, by decide +kernel, by decide +kernel⟩
theorem sc_law_draw : FnScope ["rng", "limit", "found", "mixed"] ["rng", "limit"] (defScope s_law_draw) := ⟨rfl, rfl, rfl, by decide +kernel, rfl, by decide +kernel, by decide +kernel⟩
theorem sc_law_flat : FnScope ["layers", "size", "layer", "found", "place", "many"] ["layers"] (defScope s_law_flat) := ⟨rfl, rfl, rfl, by decide +kernel, rfl, by decide +kernel, by decide +kernel⟩
theorem sc_law_single : FnScope ["rng", "found", "turn"] ["rng"] (defScope s_law_single) := ⟨rfl, rfl, rfl, by decide +kernel, rfl, by decide +kernel, by decide +kernel⟩
theorem sc_law_layer : FnScope ["rng", "way", "row", "parts", "wide", "layer"] ["rng"] (defScope s_law_layer) := ⟨rfl, rfl, rfl, by decide +kernel, rfl, by decide +kernel, by decide +kernel⟩
theorem sc_law_due : FnScope ["pairs", "found", "layer", "parts", "part"] ["pairs"] (defScope s_law_due) := ⟨rfl, rfl, rfl, by decide +kernel, rfl, by decide +kernel, by decide +kernel⟩
theorem sc_law_changed : FnScope ["rng", "layer", "wait", "size"] ["rng", "layer"] (defScope s_law_changed) := ⟨rfl, rfl, rfl, by decide +kernel, rfl, by decide +kernel, by decide +kernel⟩
theorem sc_law_sorted : FnScope ["layers", "found", "layer", "at"] ["layers"] (defScope s_law_sorted) := ⟨rfl, rfl, rfl, by decide +kernel, rfl, by decide +kernel, by decide +kernel⟩
theorem sc_law_flat_right : FnScope ["rng", "layers", "nesting", "long_row", "turn"] ["rng"] (defScope s_law_flat_right) := ⟨rfl, rfl, rfl, by decide +kernel, rfl, by decide +kernel, by decide +kernel⟩
theorem sc_law : FnScope ["script", "rng", "lap", "pairs", "layers", "passed", "due", "at", "other", "turned", "far", "turn", "layer", "parts"] ["script"] (defScope s_law) := ⟨rfl, rfl, rfl, by decide +kernel, rfl, by decide +kernel, by decide +kernel⟩
/-! ## what the top has written -/
structure Txt (K : PySem.W.Frag) (mg : Str → Option Value) where
  f_first_negative : Addr
  d_first_negative : FuncData
  F_first_negative : Fun K "first_negative" "first_negative" s_first_negative f_first_negative d_first_negative
  g_first_negative : mg "first_negative" = some (.ref f_first_negative)
  b_first_negative : Binds K d_first_negative ["waits"] []
  f_check_waits : Addr
  d_check_waits : FuncData
  F_check_waits : Fun K "check_waits" "check_waits" s_check_waits f_check_waits d_check_waits
  g_check_waits : mg "check_waits" = some (.ref f_check_waits)
  b_check_waits : Binds K d_check_waits ["waits"] []
  f_is_valid_layer : Addr
  d_is_valid_layer : FuncData
  F_is_valid_layer : Fun K "is_valid_layer" "is_valid_layer" s_is_valid_layer f_is_valid_layer d_is_valid_layer
  g_is_valid_layer : mg "is_valid_layer" = some (.ref f_is_valid_layer)
  b_is_valid_layer : Binds K d_is_valid_layer ["layer"] []
  f_check_nesting : Addr
  d_check_nesting : FuncData
  F_check_nesting : Fun K "check_nesting" "check_nesting" s_check_nesting f_check_nesting d_check_nesting
  g_check_nesting : mg "check_nesting" = some (.ref f_check_nesting)
  b_check_nesting : Binds K d_check_nesting ["nesting"] []
  f_repeats : Addr
  d_repeats : FuncData
  F_repeats : Fun K "repeats" "repeats" s_repeats f_repeats d_repeats
  g_repeats : mg "repeats" = some (.ref f_repeats)
  b_repeats : Binds K d_repeats ["waits", "number"] []
  f_is_inner_number : Addr
  d_is_inner_number : FuncData
  F_is_inner_number : Fun K "is_inner_number" "is_inner_number" s_is_inner_number f_is_inner_number d_is_inner_number
  g_is_inner_number : mg "is_inner_number" = some (.ref f_is_inner_number)
  b_is_inner_number : Binds K d_is_inner_number ["waits", "number"] []
  f_smallest_inner_number : Addr
  d_smallest_inner_number : FuncData
  F_smallest_inner_number : Fun K "smallest_inner_number" "smallest_inner_number" s_smallest_inner_number f_smallest_inner_number d_smallest_inner_number
  g_smallest_inner_number : mg "smallest_inner_number" = some (.ref f_smallest_inner_number)
  b_smallest_inner_number : Binds K d_smallest_inner_number ["waits"] []
  f_list_parts : Addr
  d_list_parts : FuncData
  F_list_parts : Fun K "list_parts" "list_parts" s_list_parts f_list_parts d_list_parts
  g_list_parts : mg "list_parts" = some (.ref f_list_parts)
  b_list_parts : Binds K d_list_parts ["waits"] []
  f_layer_parts : Addr
  d_layer_parts : FuncData
  F_layer_parts : Fun K "layer_parts" "layer_parts" s_layer_parts f_layer_parts d_layer_parts
  g_layer_parts : mg "layer_parts" = some (.ref f_layer_parts)
  b_layer_parts : Binds K d_layer_parts ["layer"] []
  f_same_constant : Addr
  d_same_constant : FuncData
  F_same_constant : Fun K "same_constant" "same_constant" s_same_constant f_same_constant d_same_constant
  g_same_constant : mg "same_constant" = some (.ref f_same_constant)
  b_same_constant : Binds K d_same_constant ["first", "second"] []
  f_merged : Addr
  d_merged : FuncData
  F_merged : Fun K "merged" "merged" s_merged f_merged d_merged
  g_merged : mg "merged" = some (.ref f_merged)
  b_merged : Binds K d_merged ["layers"] []
  f_normal_form : Addr
  d_normal_form : FuncData
  F_normal_form : Fun K "normal_form" "normal_form" s_normal_form f_normal_form d_normal_form
  g_normal_form : mg "normal_form" = some (.ref f_normal_form)
  b_normal_form : Binds K d_normal_form ["nesting"] []
  f_is_unsplittable : Addr
  d_is_unsplittable : FuncData
  F_is_unsplittable : Fun K "is_unsplittable" "is_unsplittable" s_is_unsplittable f_is_unsplittable d_is_unsplittable
  g_is_unsplittable : mg "is_unsplittable" = some (.ref f_is_unsplittable)
  b_is_unsplittable : Binds K d_is_unsplittable ["waits"] []
  f_same_policy : Addr
  d_same_policy : FuncData
  F_same_policy : Fun K "same_policy" "same_policy" s_same_policy f_same_policy d_same_policy
  g_same_policy : mg "same_policy" = some (.ref f_same_policy)
  b_same_policy : Binds K d_same_policy ["first", "second"] []
  f_check_size : Addr
  d_check_size : FuncData
  F_check_size : Fun K "check_size" "check_size" s_check_size f_check_size d_check_size
  g_check_size : mg "check_size" = some (.ref f_check_size)
  b_check_size : Binds K d_check_size ["total"] []
  f_nested : Addr
  d_nested : FuncData
  F_nested : Fun K "nested" "nested" s_nested f_nested d_nested
  g_nested : mg "nested" = some (.ref f_nested)
  b_nested : Binds K d_nested ["inner", "outer"] []
  f_layer_attempts : Addr
  d_layer_attempts : FuncData
  F_layer_attempts : Fun K "layer_attempts" "layer_attempts" s_layer_attempts f_layer_attempts d_layer_attempts
  g_layer_attempts : mg "layer_attempts" = some (.ref f_layer_attempts)
  b_layer_attempts : Binds K d_layer_attempts ["layer"] []
  f_layer_waits : Addr
  d_layer_waits : FuncData
  F_layer_waits : Fun K "layer_waits" "layer_waits" s_layer_waits f_layer_waits d_layer_waits
  g_layer_waits : mg "layer_waits" = some (.ref f_layer_waits)
  b_layer_waits : Binds K d_layer_waits ["layer"] []
  f_attempts : Addr
  d_attempts : FuncData
  F_attempts : Fun K "attempts" "attempts" s_attempts f_attempts d_attempts
  g_attempts : mg "attempts" = some (.ref f_attempts)
  b_attempts : Binds K d_attempts ["nesting"] []
  f_flatten : Addr
  d_flatten : FuncData
  F_flatten : Fun K "flatten" "flatten" s_flatten f_flatten d_flatten
  g_flatten : mg "flatten" = some (.ref f_flatten)
  b_flatten : Binds K d_flatten ["nesting"] []
  f_law_rng : Addr
  d_law_rng : FuncData
  F_law_rng : Fun K "_law_rng" "_law_rng" s_law_rng f_law_rng d_law_rng
  g_law_rng : mg "_law_rng" = some (.ref f_law_rng)
  b_law_rng : Binds K d_law_rng ["script"] []
  f_law_draw : Addr
  d_law_draw : FuncData
  F_law_draw : Fun K "_law_draw" "_law_draw" s_law_draw f_law_draw d_law_draw
  g_law_draw : mg "_law_draw" = some (.ref f_law_draw)
  b_law_draw : Binds K d_law_draw ["rng", "limit"] []
  f_law_flat : Addr
  d_law_flat : FuncData
  F_law_flat : Fun K "_law_flat" "_law_flat" s_law_flat f_law_flat d_law_flat
  g_law_flat : mg "_law_flat" = some (.ref f_law_flat)
  b_law_flat : Binds K d_law_flat ["layers"] []
  f_law_single : Addr
  d_law_single : FuncData
  F_law_single : Fun K "_law_single" "_law_single" s_law_single f_law_single d_law_single
  g_law_single : mg "_law_single" = some (.ref f_law_single)
  b_law_single : Binds K d_law_single ["rng"] []
  f_law_layer : Addr
  d_law_layer : FuncData
  F_law_layer : Fun K "_law_layer" "_law_layer" s_law_layer f_law_layer d_law_layer
  g_law_layer : mg "_law_layer" = some (.ref f_law_layer)
  b_law_layer : Binds K d_law_layer ["rng"] []
  f_law_due : Addr
  d_law_due : FuncData
  F_law_due : Fun K "_law_due" "_law_due" s_law_due f_law_due d_law_due
  g_law_due : mg "_law_due" = some (.ref f_law_due)
  b_law_due : Binds K d_law_due ["pairs"] []
  f_law_changed : Addr
  d_law_changed : FuncData
  F_law_changed : Fun K "_law_changed" "_law_changed" s_law_changed f_law_changed d_law_changed
  g_law_changed : mg "_law_changed" = some (.ref f_law_changed)
  b_law_changed : Binds K d_law_changed ["rng", "layer"] []
  f_law_sorted : Addr
  d_law_sorted : FuncData
  F_law_sorted : Fun K "_law_sorted" "_law_sorted" s_law_sorted f_law_sorted d_law_sorted
  g_law_sorted : mg "_law_sorted" = some (.ref f_law_sorted)
  b_law_sorted : Binds K d_law_sorted ["layers"] []
  f_law_flat_right : Addr
  d_law_flat_right : FuncData
  F_law_flat_right : Fun K "_law_flat_right" "_law_flat_right" s_law_flat_right f_law_flat_right d_law_flat_right
  g_law_flat_right : mg "_law_flat_right" = some (.ref f_law_flat_right)
  b_law_flat_right : Binds K d_law_flat_right ["rng"] []
  f_law : Addr
  d_law : FuncData
  F_law : Fun K "law" "law" s_law f_law d_law
  g_law : mg "law" = some (.ref f_law)
  b_law : Binds K d_law ["script"] []
  m_abs : mg "abs" = none
  m_enumerate : mg "enumerate" = none
  m_isinstance : mg "isinstance" = none
  m_len : mg "len" = none
  m_list : mg "list" = none
  m_min : mg "min" = none
  m_range : mg "range" = none
  m_repr : mg "repr" = none
  m_tuple : mg "tuple" = none
  t_MOST_ATTEMPTS : Tok
  c_MOST_ATTEMPTS : mg "MOST_ATTEMPTS" = some (.int 10000 t_MOST_ATTEMPTS)
end Rn
namespace Rn
open PySem PySem.Spec PyProof.Rows L2
section
variable {P : Program} {w : World} {K : PySem.W.Frag} {mg : Str → Option Value} {base : Heap}
/-- where the first negative one stands -/
def negAt (ns : List Int) : V := match ns.findIdx? (fun x => decide (x < 0)) with
  | none => .non
  | some i => .int (i : Nat)
theorem negAt_none {ns : List Int} (h : ∀ x ∈ ns, 0 ≤ x) : negAt ns = .non := by
  unfold negAt
  rw [List.findIdx?_eq_none_iff.mpr fun x hx => decide_eq_false (by have := h x hx; omega)]
def sp_first_negative (K : PySem.W.Frag) : Sp := fun vs H Q _ => ∃ (a : Addr) (ns : List Int), vs = [.ref a] ∧ SqL K H a (ns.map V.int) ∧ ∀ H', Same H H' → Q (negAt ns) H'
theorem ok_first_negative (T : Txt K mg) : FnOk P w K mg base CX0 1 T.f_first_negative T.d_first_negative ["waits"] (sp_first_negative K) := by
  refine T.F_first_negative.ok sc_first_negative (fun vs H Q E h => ?_) (fun cdv A outer s H vs Q E hr h => ?_)
  · obtain ⟨a, ns, rfl, _⟩ := h
    rfl
  obtain ⟨a, ns, rfl, hS, q⟩ := h
  refine ⟨_, (pss_cons (ps_for PassesOwn.never rfl (pi_enum (by rfl) T.m_enumerate (pa_cons (pv 0) pa_nil)) (pg_tup rfl (pgs_cons (pg_name (i := 1) sc_first_negative.nd rfl (Or.inl rfl)) (pgs_cons (pg_name (i := 2) sc_first_negative.nd rfl (Or.inl rfl)) pgs_nil)))
      (pss_one (ps_if (pt_cmpR op_lt (pv 2) pe_int (nomark _))
      (pss_one (ps_ret (pv 1)))
      pss_nil)))
      (pss_one (ps_ret pe_non))), ?_⟩
  -- the walk
  refine ⟨.ref a, rfl, a, ns.map V.int, rfl, hS, for_enum (fun i σ H' => (∃ y1 y2, σ = [some (.ref a), y1, y2]) ∧ Same H H' ∧ ∀ j : Nat, j < i → ∀ x, ns[j]? = some x → 0 ≤ x)
    ⟨⟨none, none, rfl⟩, Same.refl H, fun j hj => absurd hj (Nat.not_lt_zero j)⟩ (fun i σ H' _ h => h.2.1.seq hS) (fun i x σ H' t hx h nt => ?_) (fun σ H' h => ?_)⟩
  · obtain ⟨⟨y1, y2, rfl⟩, sm, hn⟩ := h
    obtain ⟨n, hx', rfl⟩ : ∃ n, ns[i]? = some n ∧ x = .int n := by
      rw [List.getElem?_map] at hx
      cases e : ns[i]? with
      | none => rw [e] at hx; cases hx
      | some n => rw [e] at hx; exact ⟨n, rfl, (Option.some.inj hx).symm⟩
    refine ⟨t, _, rfl, sqt upd_same, rfl, _, _, rfl, _, _, rfl, rfl, ?_⟩
    -- if wait < 0
    refine ⟨_, rfl, _, _, rfl, rfl, _, rfl, ite2 (fun e => ?_) (fun e => ?_)⟩
    · have e' : n < 0 := of_decide_eq_true e
      refine ⟨_, rfl, ?_⟩
      have hf : negAt ns = .int (i : Nat) := by
        unfold negAt
        have hi : i < ns.length := (List.getElem?_eq_some_iff.mp hx').1
        have : ns.findIdx? (fun x => decide (x < 0)) = some i := by
          rw [List.findIdx?_eq_some_iff_getElem]
          refine ⟨hi, ?_, fun j hj => ?_⟩
          · rw [(List.getElem?_eq_some_iff.mp hx').2]
            exact decide_eq_true e'
          · have hjl : j < ns.length := by omega
            have := hn j hj _ (List.getElem?_eq_getElem hjl)
            simp only [decide_eq_true_eq]
            omega
        rw [this]
      have := q (upd H' t (.tup [.int (i : Nat), .int n])) (sm.trans (same_new nt))
      rw [hf] at this
      exact this
    · refine ⟨⟨_, _, rfl⟩, sm.trans (same_new nt), fun j hj x hz => ?_⟩
      by_cases ej : j = i
      · subst ej
        rw [hx'] at hz
        cases hz
        have := of_decide_eq_false (Bool.eq_false_iff.mpr e)
        omega
      · exact hn j (by omega) x hz
  · obtain ⟨⟨y1, y2, rfl⟩, sm, hn⟩ := h
    have e : negAt ns = .non := negAt_none fun x hx => by
      obtain ⟨j, hj, e⟩ := List.getElem_of_mem hx
      exact hn j (by simpa using hj) x (by rw [← e]; exact List.getElem?_eq_getElem hj)
    have := q H' sm
    rw [e] at this
    exact this

end
end Rn
namespace Rn
open PySem PySem.Spec PyProof.Rows L2
section
variable {P : Program} {w : World} {K : PySem.W.Frag} {mg : Str → Option Value} {base : Heap}
def sp_check_waits (K : PySem.W.Frag) : Sp := fun vs H Q _ => ∃ (a : Addr) (ns : List Int), vs = [.ref a] ∧ SqL K H a (ns.map V.int) ∧ (∀ x ∈ ns, 0 ≤ x) ∧ ∀ H', Same H H' → Q .non H'
theorem ok_check_waits (T : Txt K mg) : FnOk P w K mg base CX0 2 T.f_check_waits T.d_check_waits ["waits"] (sp_check_waits K) := by
  have G_first_negative := ok_first_negative (P := P) (w := w) (base := base) T
  refine T.F_check_waits.ok sc_check_waits (fun vs H Q E h => ?_) (fun cdv A outer s H vs Q E hr h => ?_)
  · obtain ⟨a, ns, rfl, _⟩ := h
    rfl
  obtain ⟨a, ns, rfl, hS, hn, q⟩ := h
  refine ⟨_, (pss_cons (ps_set (i := 1) sc_check_waits.nd rfl (Or.inl rfl) (pe_call G_first_negative hr (by rfl) T.g_first_negative T.F_first_negative.kp T.b_first_negative .nil pass0 (pa_cons (pv 0) pa_nil)))
      (pss_one (ps_if (pt_cmpR op_notN (pv 1) pe_non (nomark _))
      (pss_one ps_never)
      pss_nil))), ?_⟩
  refine ⟨.ref a, rfl, a, ns, rfl, hS, fun H1 s1 => ?_⟩
  rw [negAt_none hn]
  exact ⟨_, rfl, rfl, _, rfl, iteNS rfl (q H1 s1)⟩

end
end Rn
namespace Rn
open PySem PySem.Spec PyProof.Rows L2
section
variable {P : Program} {w : World} {K : PySem.W.Frag} {mg : Str → Option Value} {base : Heap}
def sp_is_valid_layer (K : PySem.W.Frag) : Sp := fun vs H Q _ => ∃ (v : V) (L : Lay), vs = [v] ∧ LayAt H v L ∧ ∀ H', Same H H' → Q (.bl L.ok) H'
theorem negAt_iff (ns : List Int) : decide (negAt ns = .non) = ns.all fun x => decide (0 ≤ x) := by
  by_cases h : ∀ x ∈ ns, 0 ≤ x
  · rw [negAt_none h, decide_eq_true rfl]
    symm
    rw [List.all_eq_true]
    exact fun x hx => decide_eq_true (h x hx)
  · have e : ns.all (fun x => decide (0 ≤ x)) = false := by
      rw [Bool.eq_false_iff]
      intro z
      rw [List.all_eq_true] at z
      exact h fun x hx => of_decide_eq_true (z x hx)
    rw [e]
    unfold negAt
    cases q : ns.findIdx? (fun x => decide (x < 0)) with
    | none =>
      rw [List.findIdx?_eq_none_iff] at q
      exact absurd (fun x hx => by have := of_decide_eq_false (q x hx); omega) h
    | some i => exact decide_eq_false fun z => nomatch z
theorem ok_is_valid_layer (T : Txt K mg) : FnOk P w K mg base CX0 2 T.f_is_valid_layer T.d_is_valid_layer ["layer"] (sp_is_valid_layer K) := by
  have G_first_negative := ok_first_negative (P := P) (w := w) (base := base) T
  refine T.F_is_valid_layer.ok sc_is_valid_layer (fun vs H Q E h => ?_) (fun cdv A outer s H vs Q E hr h => ?_)
  · obtain ⟨v, L, rfl, _⟩ := h
    rfl
  obtain ⟨v, L, rfl, hL, q⟩ := h
  refine ⟨_, (pss_cons (ps_if (pt_val (pe_callB call_isi (by rfl) T.m_isinstance (by decide +kernel) (pa_cons (pv 0) (pa_cons (pe_bltn (v := .ty "tuple") (by rfl) T.m_tuple (by decide +kernel) rfl) pa_nil))))
      (pss_cons (ps_asg (pv 0) (pg_tup rfl (pgs_cons (pg_name (i := 1) sc_is_valid_layer.nd rfl (Or.inl rfl)) (pgs_cons (pg_name (i := 2) sc_is_valid_layer.nd rfl (Or.inl rfl)) pgs_nil))))
      (pss_one (ps_ret (pe_and (pe_cmpR op_ge (pv 1) pe_int (nomark _)) (pe_one (pe_cmpR op_ge (pv 2) pe_int (nomark _)))))))
      pss_nil)
      (pss_one (ps_ret (pe_cmpR op_isN (pe_call G_first_negative hr (by rfl) T.g_first_negative T.F_first_negative.kp T.b_first_negative .nil pass0 (pa_cons (pv 0) pa_nil)) pe_non (nomark _))))), ?_⟩
  cases L with
  | con wt n =>
    obtain ⟨p, rfl, hp⟩ := hL
    refine ⟨_, rfl, _, _, _, _, true, rfl, .ty "tuple", .base (.tup hp), kit_ty (by decide +kernel), true, rfl, iteT ?_⟩
    refine ⟨_, rfl, p, _, rfl, sqt hp, rfl, _, _, rfl, _, _, rfl, rfl, ?_⟩
    refine ⟨_, rfl, _, _, rfl, rfl, _, rfl, ite2 (fun e => ?_) (fun e => ?_)⟩
    · refine ⟨_, rfl, _, _, rfl, rfl, ?_⟩
      have := q H (Same.refl H)
      rw [Lay.ok_con, e, Bool.true_and] at this
      exact this
    · have := q H (Same.refl H)
      rw [Lay.ok_con, Bool.eq_false_iff.mpr e, Bool.false_and] at this
      exact this
  | pol ns =>
    obtain ⟨p, rfl, hp⟩ := hL
    refine ⟨_, rfl, _, _, _, _, false, rfl, .ty "tuple", .base (.lst hp), kit_ty (by decide +kernel), false, rfl, iteF ?_⟩
    refine ⟨_, rfl, p, ns, rfl, sql hp, fun H' sm => ⟨rfl, ?_⟩⟩
    have := q H' sm
    rw [Lay.ok_pol, ← negAt_iff] at this
    exact this

end
end Rn
namespace Rn
open PySem PySem.Spec PyProof.Rows L2
section
variable {P : Program} {w : World} {K : PySem.W.Frag} {mg : Str → Option Value} {base : Heap}
def sp_check_nesting (K : PySem.W.Frag) : Sp := fun vs H Q _ => ∃ (a : Addr) (Ls : List Lay), vs = [.ref a] ∧ NestAt H a Ls ∧ (∀ L ∈ Ls, L.ok = true) ∧ ∀ H', Same H H' → Q .non H'
theorem ok_check_nesting (T : Txt K mg) : FnOk P w K mg base CX0 3 T.f_check_nesting T.d_check_nesting ["nesting"] (sp_check_nesting K) := by
  have G_is_valid_layer := ok_is_valid_layer (P := P) (w := w) (base := base) T
  refine T.F_check_nesting.ok sc_check_nesting (fun vs H Q E h => ?_) (fun cdv A outer s H vs Q E hr h => ?_)
  · obtain ⟨a, Ls, rfl, _⟩ := h
    rfl
  obtain ⟨a, Ls, rfl, hN, hok, q⟩ := h
  refine ⟨_, (pss_one (ps_for PassesOwn.never rfl (pi_enum (by rfl) T.m_enumerate (pa_cons (pv 0) pa_nil)) (pg_tup rfl (pgs_cons (pg_name (i := 1) sc_check_nesting.nd rfl (Or.inl rfl)) (pgs_cons (pg_name (i := 2) sc_check_nesting.nd rfl (Or.inl rfl)) pgs_nil)))
      (pss_one (ps_if (pt_not (pt_val (pe_call G_is_valid_layer hr (by rfl) T.g_is_valid_layer T.F_is_valid_layer.kp T.b_is_valid_layer .nil pass0 (pa_cons (pv 2) pa_nil))))
      (pss_one ps_never)
      pss_nil)))), ?_⟩
  obtain ⟨vs, hv, hl, hat⟩ := id hN
  refine ⟨.ref a, rfl, a, vs, rfl, sql hv, for_enum (fun i σ H' => (∃ y1 y2, σ = [some (.ref a), y1, y2]) ∧ Same H H') ⟨⟨none, none, rfl⟩, Same.refl H⟩ (fun i σ H' _ h => h.2.seq (sql hv)) (fun i x σ H' t hx h nt => ?_) (fun σ H' h => q H' h.2)⟩
  obtain ⟨⟨y1, y2, rfl⟩, sm⟩ := h
  have hi : i < Ls.length := by
    rw [← hl]
    exact (List.getElem?_eq_some_iff.mp hx).1
  have sm1 := sm.trans (same_new (o := .tup [.int (i : Nat), x]) nt)
  refine ⟨t, _, rfl, sqt upd_same, rfl, _, _, rfl, _, _, rfl, rfl, ?_⟩
  refine ⟨_, rfl, x, Ls[i], rfl, (hat i x _ hx (List.getElem?_eq_getElem hi)).same sm1, fun H2 s2 => ?_⟩
  rw [hok _ (List.getElem_mem hi)]
  exact ⟨true, rfl, iteF ⟨⟨_, _, rfl⟩, sm1.trans s2⟩⟩

end
end Rn
namespace Rn
open PySem PySem.Spec PyProof.Rows L2
section
variable {P : Program} {w : World} {K : PySem.W.Frag} {mg : Str → Option Value} {base : Heap}
def sp_repeats (K : PySem.W.Frag) : Sp := fun vs H Q _ => ∃ (a : Addr) (ws : List Int) (n : Nat), vs = [.ref a, .int (n : Int)] ∧ SqL K H a (ws.map V.int) ∧ 1 ≤ n ∧ n ∣ ws.length + 1 ∧ ws.length ≤ 20000 ∧ ∀ H', Same H H' → Q (.bl (repB ws n)) H'
theorem ok_repeats (T : Txt K mg) : FnOk P w K mg base CX0 1 T.f_repeats T.d_repeats ["waits", "number"] (sp_repeats K) := by
  refine T.F_repeats.ok sc_repeats (fun vs H Q E h => ?_) (fun cdv A outer s H vs Q E hr h => ?_)
  · obtain ⟨a, ws, n, rfl, _⟩ := h
    rfl
  obtain ⟨a, ws, n, rfl, hS, hn, hd, hl, q⟩ := h
  obtain ⟨k, hk⟩ := hd
  have hk1 : 1 ≤ k := by
    cases k with
    | zero => rw [Nat.mul_zero] at hk; omega
    | succ k => omega
  have hkd : (ws.length + 1) / n = k := by rw [hk, Nat.mul_div_cancel_left _ (by omega)]
  refine ⟨_, (pss_cons (ps_set (i := 2) sc_repeats.nd rfl (Or.inl rfl) (pe_slice sl_list (pv 0) po_none (po_some (pe_op op_sub (pv 1) pe_int))))
      (pss_cons (ps_for PassesOwn.never rfl (pi_range3 rfl T.m_range (pa_cons (pv 1) (pa_cons (pe_op op_add (pe_callB call_len_seq (by rfl) T.m_len PySem.boot_len (pa_cons (pv 0) pa_nil)) pe_int) (pa_cons (pv 1) pa_nil)))) (pg_name (i := 3) sc_repeats.nd rfl (Or.inl rfl))
      (pss_one (ps_if (pt_cmpR (op_neD hr.units) (pe_slice sl_list (pv 0) (po_some (pv 3)) (po_some (pe_op op_sub (pe_op op_add (pv 3) (pv 1)) pe_int))) (pv 2) (nomark _))
      (pss_one (ps_ret pe_bl))
      pss_nil)))
      (pss_one (ps_ret pe_bl)))), ?_⟩
  refine ⟨_, rfl, _, rfl, _, _, rfl, rfl, _, rfl, a, _, rfl, hS, fun b hb => ?_⟩
  rw [show (n : Int) - 1 = ((n - 1 : Nat) : Int) by omega, cut_n, show (ws.map V.int).take (n - 1) = (blk ws n 0).map V.int by rw [← blk_map, Nat.zero_mul, List.drop_zero]]
  have sb := same_new (o := .lst ((blk ws n 0).map V.int)) hb
  have eb := upd_same (H := H) (a := b) (o := .lst ((blk ws n 0).map V.int))
  generalize upd H b (.lst ((blk ws n 0).map V.int)) = H0 at *
  refine ⟨_, rfl, _, rfl, a, _, rfl, .inl (sb.seq hS), _, _, rfl, rfl, _, rfl, _, _, _, _, rfl, ?_, for_rangeC (n := k - 1) (fun i σ H' => (∃ y, σ = [some (.ref a), some (.int (n : Int)), some (.ref b), y]) ∧ Same H0 H' ∧ ∀ c, c ≤ i → blk ws n c = blk ws n 0)
    ⟨⟨none, rfl⟩, Same.refl _, fun c hc => by rw [Nat.le_zero.mp hc]⟩ (fun i σ H' hi h => ?_) (fun σ H' h => ?_)⟩
  · rw [show (((ws.map V.int).length : Int) + 1) = ((n * k : Nat) : Int) by rw [List.length_map]; omega]
    exact RgC.blocks hn hk1 (by omega)
  · obtain ⟨⟨y, rfl⟩, sm, hc⟩ := h
    refine ⟨_, rfl, _, rfl, _, rfl, _, rfl, _, rfl, _, _, rfl, rfl, _, _, rfl, rfl, _, rfl, a, _, rfl, (sb.trans sm).seq hS, fun p hp => ?_⟩
    have em : (n : Int) + (i : Int) * (n : Int) = (((i + 1) * n : Nat) : Int) := by
      rw [Nat.succ_mul]
      omega
    have ec : cutV (ws.map V.int) (some ((n : Int) + (i : Int) * (n : Int))) (some ((n : Int) + (i : Int) * (n : Int) + (n : Int) - 1)) = (blk ws n (i + 1)).map V.int := by
      rw [em, show (((i + 1) * n : Nat) : Int) + (n : Int) - 1 = (((i + 1) * n + (n - 1) : Nat) : Int) by omega, cut_mid, show (i + 1) * n + (n - 1) - (i + 1) * n = n - 1 by omega, blk_map]
    rw [ec]
    have sp := same_new (o := .lst ((blk ws n (i + 1)).map V.int)) hp
    have ep := upd_same (H := H') (a := p) (o := .lst ((blk ws n (i + 1)).map V.int))
    generalize upd H' p (.lst ((blk ws n (i + 1)).map V.int)) = H1 at *
    refine ⟨_, rfl, dInts (blk ws n (i + 1)), dInts (blk ws n 0), dp_ints (sql ep), dp_ints (sql ((sm.trans sp) _ _ eb)), shaped_ints _, shaped_ints _, _, rfl, ?_⟩
    rw [eqv_ints]
    refine ite2 (fun e => ?_) (fun e => ?_)
    · have e' : blk ws n (i + 1) ≠ blk ws n 0 := by simpa using e
      have := q H1 ((sb.trans sm).trans sp)
      rw [repB_not (c := i + 1) (by omega) e'] at this
      exact this
    · have e' : blk ws n (i + 1) = blk ws n 0 := by simpa using e
      refine ⟨⟨_, rfl⟩, sm.trans sp, fun c hc' => ?_⟩
      by_cases z : c = i + 1
      · rw [z]; exact e'
      · exact hc c (by omega)
  · obtain ⟨_, sm, hc⟩ := h
    have := q H' (sb.trans sm)
    rw [repB_of fun c hc' => hc c (by omega)] at this
    exact this

end
end Rn
namespace Rn
open PySem PySem.Spec PyProof.Rows L2
section
variable {P : Program} {w : World} {K : PySem.W.Frag} {mg : Str → Option Value} {base : Heap}
def sp_is_inner_number (K : PySem.W.Frag) : Sp := fun vs H Q _ => ∃ (a : Addr) (ws : List Int) (n : Int), vs = [.ref a, .int n] ∧ SqL K H a (ws.map V.int) ∧ ws.length ≤ 20000 ∧ ∀ H', Same H H' → Q (.bl (innB ws n)) H'
theorem ok_is_inner_number (T : Txt K mg) : FnOk P w K mg base CX0 2 T.f_is_inner_number T.d_is_inner_number ["waits", "number"] (sp_is_inner_number K) := by
  have G_repeats := ok_repeats (P := P) (w := w) (base := base) T
  refine T.F_is_inner_number.ok sc_is_inner_number (fun vs H Q E h => ?_) (fun cdv A outer s H vs Q E hr h => ?_)
  · obtain ⟨a, ws, n, rfl, _⟩ := h
    rfl
  obtain ⟨a, ws, n, rfl, hS, hl, q⟩ := h
  refine ⟨_, (pss_cons (ps_if (PW.pt (pw_or (pt_cmpR op_lt (pv 1) pe_int (nomark _)) (pw_or1 (pt_cmpR op_ne (pe_op op_mod (pe_op op_add (pe_callB call_len_seq (by rfl) T.m_len PySem.boot_len (pa_cons (pv 0) pa_nil)) pe_int) (pv 1)) pe_int (nomark _)))))
      (pss_one (ps_ret pe_bl))
      pss_nil)
      (pss_one (ps_ret (pe_call G_repeats hr (by rfl) T.g_repeats T.F_repeats.kp T.b_repeats .nil pass0 (pa_cons (pv 0) (pa_cons (pv 1) pa_nil)))))), ?_⟩
  refine ⟨_, rfl, _, _, rfl, rfl, _, rfl, ite2 (fun e => ?_) (fun e => ?_)⟩
  · have e' : n < 1 := of_decide_eq_true e
    have := q H (Same.refl _)
    unfold innB at this
    rw [decide_eq_false (show ¬ (1 : Int) ≤ n by omega)] at this
    exact iteT this
  · have e' : 1 ≤ n := by
      have := of_decide_eq_false (Bool.eq_false_iff.mpr e)
      omega
    refine ⟨_, rfl, a, _, rfl, .inl hS, _, _, rfl, rfl, _, rfl, _, _, rfl, rfl, by omega, rfl, _, rfl, ite2 (fun d => ?_) (fun d => ?_)⟩
    · have d' : ¬ ((ws.length : Int) + 1) % n = 0 := by simpa [List.length_map] using d
      have := q H (Same.refl _)
      unfold innB at this
      rw [decide_eq_false d', Bool.and_false, Bool.false_and] at this
      exact this
    · have d' : ((ws.length : Int) + 1) % n = 0 := by simpa [List.length_map] using d
      obtain ⟨m, rfl⟩ : ∃ m : Nat, n = (m : Int) := ⟨n.toNat, by omega⟩
      refine ⟨_, rfl, _, rfl, a, ws, m, rfl, hS, by omega, ?_, hl, fun H1 s1 => ?_⟩
      · rw [← Int.natCast_dvd_natCast, Int.dvd_iff_emod_eq_zero]
        exact d'
      · have := q H1 s1
        unfold innB at this
        rw [decide_eq_true e', decide_eq_true d', Int.toNat_natCast] at this
        exact this

end
end Rn
namespace Rn
open PySem PySem.Spec PyProof.Rows L2
section
variable {P : Program} {w : World} {K : PySem.W.Frag} {mg : Str → Option Value} {base : Heap}
def sp_smallest_inner_number (K : PySem.W.Frag) : Sp := fun vs H Q _ => ∃ (a : Addr) (ws : List Int), vs = [.ref a] ∧ SqL K H a (ws.map V.int) ∧ ws.length ≤ 20000 ∧ ∀ H' m, Same H H' → Sm ws m → Q (.int (m : Nat)) H'
theorem ok_smallest_inner_number (T : Txt K mg) : FnOk P w K mg base CX0 3 T.f_smallest_inner_number T.d_smallest_inner_number ["waits"] (sp_smallest_inner_number K) := by
  have G_is_inner_number := (ok_is_inner_number (P := P) (w := w) (base := base) T)
  refine T.F_smallest_inner_number.ok sc_smallest_inner_number (fun vs H Q E h => ?_) (fun cdv A outer s H vs Q E hr h => ?_)
  · obtain ⟨a, ws, rfl, _⟩ := h
    rfl
  obtain ⟨a, ws, rfl, hS, hl, q⟩ := h
  refine ⟨_, (pss_cons (ps_set (i := 1) sc_smallest_inner_number.nd rfl (Or.inl rfl) (pe_op op_add (pe_callB call_len_seq (by rfl) T.m_len PySem.boot_len (pa_cons (pv 0) pa_nil)) pe_int))
      (pss_cons (ps_for PassesOwn.never rfl (pi_range2 (by rfl) T.m_range (pa_cons pe_int (pa_cons (pe_op op_add (pe_op op_fdivW (pv 1) pe_int) pe_int) pa_nil))) (pg_name (i := 2) sc_smallest_inner_number.nd rfl (Or.inl rfl))
      (pss_one (ps_if (pt_val (pe_call G_is_inner_number hr (by rfl) T.g_is_inner_number T.F_is_inner_number.kp T.b_is_inner_number .nil pass0 (pa_cons (pv 0) (pa_cons (pv 2) pa_nil))))
      (pss_one (ps_ret (pv 2)))
      pss_nil)))
      (pss_one (ps_ret (pv 1))))), ?_⟩
  refine ⟨_, rfl, a, _, rfl, .inl hS, _, _, rfl, rfl, ?_⟩
  refine ⟨_, rfl, _, _, rfl, rfl, wide_div (b := 4) (by decide) (by decide) (by decide) (by decide), _, _, rfl, rfl, _, _, rfl, ⟨by decide, by decide, by rw [List.length_map]; omega, by rw [List.length_map]; omega⟩, ?_⟩
  rw [List.length_map]
  refine for_range (lo := 2) (n := ((((ws.length : Int) + 1) / 2 + 1 - 2).toNat)) (fun i σ H' => (∃ y2, σ = [some (.ref a), some (.int ((ws.length : Int) + 1)), y2]) ∧ Same H H' ∧ ∀ j : Nat, 2 ≤ j → j < 2 + i → innB ws (j : Int) = false)
    ⟨⟨none, rfl⟩, Same.refl _, fun j j1 j2 => absurd j1 (by omega)⟩ (fun i σ H2 hi h => ?_) (fun σ H2 h => ?_)
  · obtain ⟨⟨y2, rfl⟩, sm, hn⟩ := h
    have hi' : (2 + i) * 2 ≤ ws.length + 1 := by omega
    refine ⟨_, rfl, _, rfl, a, ws, 2 + (i : Int), rfl, sm.seq hS, hl, fun H3 s3 => ⟨_, rfl, ite2 (fun e => ?_) (fun e => ?_)⟩⟩
    · refine ⟨_, rfl, ?_⟩
      have := q H3 (2 + i) (sm.trans s3) ⟨.inr ⟨by omega, by omega, e⟩, hn⟩
      exact this
    · refine ⟨⟨_, rfl⟩, sm.trans s3, fun j j1 j2 => ?_⟩
      by_cases z : j = 2 + i
      · rw [z]
        simpa using e
      · exact hn j j1 (by omega)
  · obtain ⟨⟨y2, rfl⟩, sm, hn⟩ := h
    refine ⟨_, rfl, q H2 (ws.length + 1) sm ⟨.inl rfl, fun j j1 j2 => ?_⟩⟩
    by_cases c : j < 2 + ((((ws.length : Int) + 1) / 2 + 1 - 2).toNat)
    · exact hn j j1 c
    · refine inn_false fun hp => ?_
      obtain ⟨k, hk⟩ := hp.2.1
      have : k < 2 := by
        apply Nat.lt_of_not_le
        intro z
        have : j * 2 ≤ j * k := Nat.mul_le_mul_left _ z
        omega
      have h0 : k = 0 ∨ k = 1 := by omega
      rcases h0 with rfl | rfl
      · omega
      · omega

end
end Rn
namespace Rn
open PySem PySem.Spec PyProof.Rows L2
section
variable {P : Program} {w : World} {K : PySem.W.Frag} {mg : Str → Option Value} {base : Heap}
def sp_list_parts (K : PySem.W.Frag) : Sp := fun vs H Q _ => ∃ (a : Addr) (ws : List Int), vs = [.ref a] ∧ H a = some (.lst (ws.map V.int)) ∧ ws.length ≤ 20000 ∧
  ∀ H' r us Ms, Same H H' → H r = none → NestV H H' r us Ms → Ms.length ≤ ws.length → Parts ws Ms → Q (.ref r) H'
theorem ok_list_parts (T : Txt K mg) : FnOk P w K mg base CX0 4 T.f_list_parts T.d_list_parts ["waits"] (sp_list_parts K) := by
  have G_smallest_inner_number := (ok_smallest_inner_number (P := P) (w := w) (base := base) T)
  refine T.F_list_parts.ok sc_list_parts (fun vs H Q E h => ?_) (fun cdv A outer s H vs Q E hr h => ?_)
  · obtain ⟨a, ws, rfl, _⟩ := h
    rfl
  obtain ⟨a, ws, rfl, ha, hl, q⟩ := h
  refine ⟨_, (pss_cons (ps_set (i := 1) sc_list_parts.nd rfl (Or.inl rfl) (pe_lst pa_nil))
      (pss_cons (ps_set (i := 2) sc_list_parts.nd rfl (Or.inl rfl) (pv 0))
      (pss_cons (ps_while PassesOwn.never (pt_truth (pv 2) (by intro _; rfl))
      (pss_cons (ps_set (i := 3) sc_list_parts.nd rfl (Or.inl rfl) (pe_call G_smallest_inner_number hr (by rfl) T.g_smallest_inner_number T.F_smallest_inner_number.kp T.b_smallest_inner_number .nil pass0 (pa_cons (pv 2) pa_nil)))
      (pss_cons (ps_set (i := 4) sc_list_parts.nd rfl (Or.inl rfl) (pe_slice sl_list (pv 2) po_none (po_some (pe_op op_sub (pv 3) pe_int))))
      (Evl.pss_cut (ps_if (pt_cmpR op_eq (pe_bm PySem.F.plainAttrs_list PySem.F.slot_list_count PySem.F.type_list_count mt_lcount (pv 4) (pa_cons (pe_ix ix_list (pv 4) pe_int (fun _ _ => rfl)) pa_nil)) (pe_callB call_len_seq (by rfl) T.m_len PySem.boot_len (pa_cons (pv 4) pa_nil)) (nomark _))
      (pss_one (ps_expr (pe_bm PySem.F.plainAttrs_list PySem.F.slot_list_append PySem.F.type_list_append mt_append (pv 1) (pa_cons (pe_tup (pa_cons (pe_ix ix_list (pv 4) pe_int (fun _ _ => rfl)) (pa_cons (pv 3) pa_nil))) pa_nil))))
      (pss_one (ps_expr (pe_bm PySem.F.plainAttrs_list PySem.F.slot_list_append PySem.F.type_list_append mt_append (pv 1) (pa_cons (pv 4) pa_nil)))))
      (pss_one (ps_set (i := 2) sc_list_parts.nd rfl (Or.inl rfl) (pe_skip (pv 2) (pe_op op_sub (pv 3) pe_int) (pv 3))))))))
      (pss_one (ps_ret (pv 1)))))), ?_⟩
  refine ⟨Nat.zero_le _, fun r hr' => ?_⟩
  have ar : a ≠ r := ne_of_none ha hr'
  refine ⟨.ref a, rfl, ?_⟩
  change gName 2 _ _ _ _
  unfold gName
  change Ends.nx _ _ _
  dsimp only
  unfold tSeq
  dsimp only
  change tWhile _ _ _ _ _
  refine while_by (fun σ H' => ∃ (b : Addr) (rs : List Int) (us : List V) (Ms : List Lay) (y3 y4 : Option V), σ = [some (.ref a), some (.ref r), some (.ref b), y3, y4] ∧ Same H H' ∧ b ≠ r ∧ H' b = some (.lst (rs.map V.int)) ∧ NestV H H' r us Ms ∧ Ms.length + rs.length ≤ ws.length ∧ ∀ Ns, Parts rs Ns → Parts ws (Ms ++ Ns))
    (fun σ H' => match σ with | [_, _, some (.ref b), _, _] => (match H' b with | some (.lst xs) => xs.length | _ => 0) | _ => 0)
    ⟨a, ws, [], [], none, none, rfl, same_new hr', ar, by rw [upd_ne ar]; exact ha, NestV.nil upd_same, by simp, fun Ns h => h⟩ (fun σ H' h => ?_) (fun σ H' Q Q' hq hc => ?_)
  · obtain ⟨b, rs, us, Ms, y3, y4, rfl, sm, br, hb, hv, hlen, hp⟩ := h
    refine ⟨_, rfl, _, .inl ⟨_, sql hb, rfl⟩, ?_⟩
    have lus : us.length ≤ ws.length := by rw [hv.2.1]; omega
    cases rs with
    | nil =>
      refine iteF ⟨_, rfl, ?_⟩
      have := hp [] .nil
      rw [List.append_nil] at this
      exact q H' r us Ms sm hr' hv (by omega) this
    | cons r0 rs' =>
      refine iteT ?_
      generalize hrs : r0 :: rs' = rs at *
      have h0 : 0 < rs.length := by rw [← hrs]; exact Nat.succ_pos _
      refine ⟨_, rfl, b, rs, rfl, sql hb, by omega, fun H1 n s1 hm => ?_⟩
      obtain ⟨n2, hpc⟩ := sm_per hm h0
      have l0 := per_low0 hpc
      have hb1 := s1 _ _ hb
      refine ⟨_, rfl, _, rfl, _, _, rfl, rfl, _, rfl, b, _, rfl, sql hb1, fun p hp' => ?_⟩
      rw [show (n : Int) - 1 = ((n - 1 : Nat) : Int) by omega, cut_n, show (rs.map V.int).take (n - 1) = (blk rs n 0).map V.int by rw [← blk_map, Nat.zero_mul, List.drop_zero]]
      have sp := s1.trans (same_new (o := .lst ((blk rs n 0).map V.int)) hp')
      have ep := upd_same (H := H1) (a := p) (o := .lst ((blk rs n 0).map V.int))
      generalize upd H1 p (.lst ((blk rs n 0).map V.int)) = H2 at *
      have hv2 := hv.same sp
      have hb2 := sp _ _ hb
      have fp : H p = none := (sm.trans s1).free hp'
      have pr : p ≠ r := fun z => by
        have := s1 _ _ hv.1
        rw [← z, hp'] at this
        cases this
      have pb : p ≠ b := fun z => by rw [z, hb1] at hp'; cases hp'
      have sm2 := sm.trans sp
      have pos : 0 < (blk rs n 0).length := by omega
      have g0 : atI ((blk rs n 0).map V.int) 0 = some (.int (blk rs n 0)[0]) := atI_nat (j := 0) (map_get (List.getElem?_eq_getElem pos))
      have w0m := List.getElem_mem pos
      generalize (blk rs n 0)[0] = w0 at *
      obtain ⟨kq, hkq⟩ := hpc.2.1
      have kq1 : 1 ≤ kq := by
        rcases Nat.eq_zero_or_pos kq with z | z
        · rw [z, Nat.mul_zero] at hkq; omega
        · exact z
      have nkq : n ≤ n * kq := Nat.le_mul_of_pos_right _ (by omega)
      have lhi := high_len hpc.1 kq1 hkq
      have lhi2 : (pks rs (n - 1) n).length + 1 ≤ rs.length := by
        have : 2 * kq ≤ n * kq := Nat.mul_le_mul_right _ n2
        omega
      refine ⟨fun σ' H3 => ∃ us3 L, σ' = [some (.ref a), some (.ref r), some (.ref b), some (.int (n : Int)), some (.ref p)] ∧ Same H H3 ∧ H3 b = some (.lst (rs.map V.int)) ∧ NestV H H3 r us3 (Ms ++ [L]) ∧ ∀ Ns, Parts (pks rs (n - 1) n) Ns → Parts rs (L :: Ns), ?_, fun σ' H3 h3 => ?_⟩
      · refine ⟨_, rfl, .inl ⟨rfl, _, sql ep⟩, _, rfl, p, _, _, _, rfl, rfl, sql ep, g0, p, _, w0, rfl, rfl, sql ep, ?_⟩
        refine ⟨_, rfl, p, _, rfl, .inl (sql ep), rfl, _, rfl, ite2 (fun e => ?_) (fun e => ?_)⟩
        · have e' : (blk rs n 0).count w0 = (blk rs n 0).length := by
            have e1 := of_decide_eq_true e
            injection e1 with e1
            rw [List.length_map] at e1
            exact Int.ofNat.inj e1
          have e2 : blk rs n 0 = List.replicate (n - 1) w0 := List.eq_replicate_iff.mpr ⟨by omega, fun x hx => (List.count_eq_length.mp e' x hx).symm⟩
          refine ⟨_, rfl, .inl ⟨rfl, _, sql hv2.1⟩, _, rfl, p, _, _, _, rfl, rfl, sql ep, g0, _, rfl, size_le (by show 2 ≤ 100000; decide), fun t ht => ?_⟩
          have st := same_new (o := .tup [.int w0, .int (n : Int)]) ht
          have hv3 := hv2.same st
          have tr : t ≠ r := fun z => by rw [z, hv2.1] at ht; cases ht
          refine ⟨r, us, _, rfl, rfl, hv3.1, size_lt (by omega), us ++ [.ref t], .con w0 (n : Int), rfl, same_keep (sm2.trans st) hr', by rw [upd_ne br]; exact st _ _ hb2, hv3.push (L := .con w0 (n : Int)) ⟨t, rfl, upd_same⟩ tr (sm2.free ht), fun Ns h => .con h0 hm e2 h⟩
        · have e' : ¬ Flat1 (blk rs n 0) := fun ⟨w, hw⟩ => by
            apply e
            have ew : w0 = w := by
              rw [hw] at w0m
              exact (List.mem_replicate.mp w0m).2
            have : (blk rs n 0).count w0 = (blk rs n 0).length := List.count_eq_length.mpr fun x hx => by
              rw [hw] at hx
              rw [ew]
              exact (List.mem_replicate.mp hx).2.symm
            rw [this, List.length_map]
            exact decide_eq_true rfl
          exact ⟨_, rfl, .inl ⟨rfl, _, sql hv2.1⟩, _, rfl, r, us, _, rfl, rfl, hv2.1, size_lt (by omega), us ++ [.ref p], .pol (blk rs n 0), rfl, same_keep sm2 hr', by rw [upd_ne br]; exact hb2, hv2.push (L := .pol (blk rs n 0)) (x := p) ⟨p, rfl, ep⟩ pr fp, fun Ns h => .pol h0 hm e' h⟩
      · obtain ⟨us3, L, rfl, sm3, hb3, hv3, hparts⟩ := h3
        refine ⟨_, rfl, _, rfl, _, _, rfl, rfl, _, rfl, _, rfl, _, rfl, n - 1, n, by rw [show (n : Int) - 1 = ((n - 1 : Nat) : Int) by omega], rfl, by omega, b, _, rfl, sql hb3, by rw [List.length_map]; omega, by rw [List.length_map]; omega, fun c hc => ?_⟩
        rw [pks_map]
        have sc := same_new (o := .lst ((pks rs (n - 1) n).map V.int)) hc
        have cr : c ≠ r := fun z => by rw [z, hv3.1] at hc; cases hc
        refine ⟨⟨c, pks rs (n - 1) n, us3, Ms ++ [L], _, _, rfl, sm3.trans sc, cr, upd_same, hv3.same sc, ?_, fun Ns h => ?_⟩, ?_⟩
        · rw [List.length_append]
          show Ms.length + 1 + _ ≤ _
          omega
        · rw [List.append_assoc]
          exact hp _ (hparts Ns h)
        · show (match (upd H3 c (.lst ((pks rs (n - 1) n).map V.int))) c with | some (.lst xs) => xs.length | _ => 0) < (match H' b with | some (.lst xs) => xs.length | _ => 0)
          rw [upd_same, hb]
          show ((pks rs (n - 1) n).map V.int).length < (rs.map V.int).length
          rw [List.length_map, List.length_map]
          omega
  · obtain ⟨v, e1, k, t, z⟩ := hc
    exact ⟨v, e1, k, t, hq _ _ z⟩

end
end Rn
namespace Rn
open PySem PySem.Spec PyProof.Rows L2
section
variable {P : Program} {w : World} {K : PySem.W.Frag} {mg : Str → Option Value} {base : Heap}
def sp_layer_parts (K : PySem.W.Frag) : Sp := fun vs H Q _ => ∃ (v : V) (L : Lay), vs = [v] ∧ LayAt H v L ∧ L.ok = true ∧ (∀ ns, L = .pol ns → ns.length ≤ 20000) ∧
  ∀ H' r us Ms, Same H H' → H r = none → NestV N0 H' r us Ms → Ms.length ≤ 20000 → (∀ M ∈ Ms, M.nf) → (∀ ns, Lay.pol ns ∈ Ms → ns.length ≤ 20000) → flatL Ms = L.waits → Q (.ref r) H'
theorem ok_layer_parts (T : Txt K mg) : FnOk P w K mg base CX0 5 T.f_layer_parts T.d_layer_parts ["layer"] (sp_layer_parts K) := by
  have G_list_parts := (ok_list_parts (P := P) (w := w) (base := base) T)
  refine T.F_layer_parts.ok sc_layer_parts (fun vs H Q E h => ?_) (fun cdv A outer s H vs Q E hr h => ?_)
  · obtain ⟨v, L, rfl, _⟩ := h
    rfl
  obtain ⟨v, L, rfl, hL, hok, hlen, q⟩ := h
  refine ⟨_, (pss_cons (ps_if (pt_val (pe_callB call_isi (by rfl) T.m_isinstance (by decide +kernel) (pa_cons (pv 0) (pa_cons (pe_bltn (v := .ty "tuple") (by rfl) T.m_tuple (by decide +kernel) rfl) pa_nil))))
      (pss_one (ps_ret (pe_ifExp (pt_cmpR op_gt (pe_ix ix_tup (pv 0) pe_int (fun _ _ => rfl)) pe_int (nomark _)) (pe_lst (pa_cons (pv 0) pa_nil)) (pe_lst pa_nil))))
      pss_nil)
      (pss_one (ps_ret (pe_call G_list_parts hr (by rfl) T.g_list_parts T.F_list_parts.kp T.b_list_parts .nil pass0 (pa_cons (pv 0) pa_nil))))), ?_⟩
  cases L with
  | con wt n =>
    obtain ⟨p, rfl, hp⟩ := hL
    have n1 : 1 ≤ n := LayAt.con_pos hok
    have w0 : 0 ≤ wt := by
      rw [Lay.ok_con, Bool.and_eq_true] at hok
      exact of_decide_eq_true hok.1
    refine ⟨_, rfl, _, _, _, _, true, rfl, .ty "tuple", .base (.tup hp), kit_ty (by decide +kernel), true, rfl, iteT ?_⟩
    refine ⟨_, rfl, p, _, 1, _, rfl, rfl, sqt hp, rfl, _, _, rfl, rfl, _, rfl, ite2 (fun e => ?_) (fun e => ?_)⟩
    · have e' : 1 < n := of_decide_eq_true e
      refine ⟨_, rfl, size_le (by show 1 ≤ 100000; decide), fun r hr' => ?_⟩
      have sr := same_new (o := .lst [.ref p]) hr'
      have pr : p ≠ r := fun z => by rw [z, hr'] at hp; cases hp
      have g : (Lay.con wt n).nf := ⟨w0, by omega⟩
      refine q _ r [.ref p] [.con wt n] sr hr' ⟨upd_same, rfl, fun i v L a b => ?_, fun x hx => ?_⟩ (by show 1 ≤ 20000; decide) (fun M hM => by rw [List.mem_singleton.mp hM]; exact g) (fun ns z => by cases List.mem_singleton.mp z) ?_
      · cases i with
        | zero => cases a; cases b; exact ⟨p, rfl, sr _ _ hp⟩
        | succ i => cases a
      · cases List.mem_singleton.mp hx
        exact ⟨pr, rfl⟩
      · rw [flatL_cons fun M hM => by rw [List.mem_singleton.mp hM]; exact g.ok]
        exact nestL_nil _
    · have e' : ¬ 1 < n := of_decide_eq_false (Bool.eq_false_iff.mpr e)
      refine ⟨Nat.zero_le _, fun r hr' => ?_⟩
      refine q _ r [] [] (same_new hr') hr' (NestV.nil upd_same) (Nat.zero_le _) (fun _ z => nomatch z) (fun _ z => nomatch z) ?_
      show [] = List.replicate (n - 1).toNat wt
      rw [show (n - 1).toNat = 0 by omega]
      rfl
  | pol ns =>
    obtain ⟨p, rfl, hp⟩ := hL
    refine ⟨_, rfl, _, _, _, _, false, rfl, .ty "tuple", .base (.lst hp), kit_ty (by decide +kernel), false, rfl, iteF ?_⟩
    have hnn : ∀ x ∈ ns, 0 ≤ x := fun x hx => by
      rw [Lay.ok_pol, List.all_eq_true] at hok
      exact of_decide_eq_true (hok x hx)
    refine ⟨_, rfl, p, ns, rfl, hp, hlen ns rfl, fun H' r us Ms sm fr hv hl hparts => ?_⟩
    obtain ⟨g1, g2⟩ := parts_ok hparts hnn
    have pl : ∀ ms, Lay.pol ms ∈ Ms → ms.length ≤ 20000 := fun ms hm => by
      have oks : ∀ M ∈ Ms, M.ok = true := fun M hM => (g1 M hM).ok
      have c := cnt_le oks hm
      have f := flatL_len _ Ms rfl oks
      rw [g2] at f
      have c2 : (Lay.pol ms).cnt = (ms.length : Int) + 1 := rfl
      have := hlen ns rfl
      omega
    exact q H' r us Ms sm fr ⟨hv.1, hv.2.1, hv.2.2.1, fun x hx => ⟨(hv.2.2.2 x hx).1, rfl⟩⟩ (by have := hlen ns rfl; omega) g1 pl g2

end
end Rn
namespace Rn
open PySem PySem.Spec PyProof.Rows L2
section
variable {P : Program} {w : World} {K : PySem.W.Frag} {mg : Str → Option Value} {base : Heap}
def sp_same_constant (K : PySem.W.Frag) : Sp := fun vs H Q _ => ∃ (u v : V) (L M : Lay), vs = [u, v] ∧ LayAt H u L ∧ LayAt H v M ∧ Q (.bl (sameC L M)) H
theorem ok_same_constant (T : Txt K mg) : FnOk P w K mg base CX0 1 T.f_same_constant T.d_same_constant ["first", "second"] (sp_same_constant K) := by
  refine T.F_same_constant.ok sc_same_constant (fun vs H Q E h => ?_) (fun cdv A outer s H vs Q E hr h => ?_)
  · obtain ⟨u, v, L, M, rfl, _⟩ := h
    rfl
  obtain ⟨u, v, L, M, rfl, hL, hM, q⟩ := h
  refine ⟨_, (pss_one (ps_ret (pe_and (pe_callB call_isi (by rfl) T.m_isinstance (by decide +kernel) (pa_cons (pv 0) (pa_cons (pe_bltn (v := .ty "tuple") (by rfl) T.m_tuple (by decide +kernel) rfl) pa_nil))) (pe_and (pe_callB call_isi (by rfl) T.m_isinstance (by decide +kernel) (pa_cons (pv 1) (pa_cons (pe_bltn (v := .ty "tuple") (by rfl) T.m_tuple (by decide +kernel) rfl) pa_nil))) (pe_one (pe_cmpR op_eq (pe_ix ix_tup (pv 0) pe_int (fun _ _ => rfl)) (pe_ix ix_tup (pv 1) pe_int (fun _ _ => rfl)) (nomark _))))))), ?_⟩
  cases L with
  | pol ns =>
    obtain ⟨p, rfl, hp⟩ := hL
    exact ⟨_, rfl, _, _, _, _, false, rfl, .ty "tuple", .base (.lst hp), kit_ty (by decide +kernel), false, rfl, iteF q⟩
  | con a n =>
    obtain ⟨p, rfl, hp⟩ := hL
    refine ⟨_, rfl, _, _, _, _, true, rfl, .ty "tuple", .base (.tup hp), kit_ty (by decide +kernel), true, rfl, iteT ?_⟩
    cases M with
    | pol ms =>
      obtain ⟨p2, rfl, hp2⟩ := hM
      exact ⟨_, rfl, _, _, _, _, false, rfl, .ty "tuple", .base (.lst hp2), kit_ty (by decide +kernel), false, rfl, iteF q⟩
    | con b m =>
      obtain ⟨p2, rfl, hp2⟩ := hM
      refine ⟨_, rfl, _, _, _, _, true, rfl, .ty "tuple", .base (.tup hp2), kit_ty (by decide +kernel), true, rfl, iteT ?_⟩
      refine ⟨_, rfl, p, _, 0, _, rfl, rfl, sqt hp, rfl, _, rfl, p2, _, 0, _, rfl, rfl, sqt hp2, rfl, rfl, ?_⟩
      have e : decide (V.int a = V.int b) = sameC (.con a n) (.con b m) := by
        show _ = decide (a = b)
        rw [Bool.eq_iff_iff, decide_eq_true_eq, decide_eq_true_eq]
        exact ⟨fun z => by injection z, fun z => by rw [z]⟩
      rw [e]
      exact q

end
end Rn
namespace Rn
open PySem PySem.Spec PyProof.Rows L2
section
variable {P : Program} {w : World} {K : PySem.W.Frag} {mg : Str → Option Value} {base : Heap}
theorem push_yes {A : List Lay} {w n m : Int} : pushL (A ++ [.con w n]) (.con w m) = A ++ [.con w (n * m)] := by
  rcases push_cases (A ++ [.con w n]) (.con w m) with ⟨A', w', n', m', e1, e2, e3⟩ | ⟨_, h⟩
  · obtain ⟨a1, a2⟩ := List.append_inj' e1 rfl
    cases a2
    cases e2
    rw [e3, a1]
  · exact absurd rfl (h A w n w m rfl rfl)
theorem push_no {acc : List Lay} {L : Lay} (h : ∀ A B, acc = A ++ [B] → sameC B L = false) : pushL acc L = acc ++ [L] := by
  rcases push_cases acc L with ⟨A, w, n, m, rfl, rfl, _⟩ | ⟨e, _⟩
  · have := h A (.con w n) rfl
    have e : sameC (.con w n) (.con w m) = true := decide_eq_true rfl
    rw [e] at this
    cases this
  · exact e
def sp_merged (K : PySem.W.Frag) : Sp := fun vs H Q _ => ∃ (a : Addr) (Ls : List Lay), vs = [.ref a] ∧ NestAt H a Ls ∧ (∀ L ∈ Ls, L.nf) ∧ Ls.length ≤ 90000 ∧ (attOf Ls).natAbs < 2 ^ 9000 ∧ (∀ ns, Lay.pol ns ∈ Ls → ns.length ≤ 20000) ∧
  ∀ H' r us, Same H H' → H r = none → NestV H H' r us (mergeL Ls) → Q (.ref r) H'
theorem ok_merged (T : Txt K mg) : FnOk P w K mg base CX0 2 T.f_merged T.d_merged ["layers"] (sp_merged K) := by
  have G_same_constant := (ok_same_constant (P := P) (w := w) (base := base) T)
  refine T.F_merged.ok sc_merged (fun vs H Q E h => ?_) (fun cdv A outer s H vs Q E hr h => ?_)
  · obtain ⟨a, Ls, rfl, _⟩ := h
    rfl
  obtain ⟨a, Ls, rfl, hN, hnf, hl9, hbig, hpl, q⟩ := h
  refine ⟨_, (pss_cons (ps_set (i := 1) sc_merged.nd rfl (Or.inl rfl) (pe_lst pa_nil))
      (pss_cons (ps_for PassesOwn.never rfl (pi_list (pv 0)) (pg_name (i := 2) sc_merged.nd rfl (Or.inl rfl))
      (pss_one (ps_if (PW.pt (pw_and (pt_truth (pv 1) (by intro _; rfl)) (pw_and1 (pt_val (pe_call G_same_constant hr (by rfl) T.g_same_constant T.F_same_constant.kp T.b_same_constant .nil pass0 (pa_cons (pe_ix ix_list (pv 1) (pe_un un_neg pe_int) (fun _ _ => rfl)) (pa_cons (pv 2) pa_nil)))))))
      (pss_cons (ps_asg (pe_ix ix_list (pv 1) (pe_un un_neg pe_int) (fun _ _ => rfl)) (pg_tup rfl (pgs_cons (pg_name (i := 3) sc_merged.nd rfl (Or.inl rfl)) (pgs_cons (pg_name (i := 4) sc_merged.nd rfl (Or.inl rfl)) pgs_nil))))
      (pss_one (ps_asg (pe_tup (pa_cons (pv 3) (pa_cons (pe_op op_mulW (pv 4) (pe_ix ix_tup (pv 2) pe_int (fun _ _ => rfl))) pa_nil))) (pg_sub (pv 1) (pe_un un_neg pe_int) set_list))))
      (pss_one (ps_if (pt_val (pe_callB call_isi (by rfl) T.m_isinstance (by decide +kernel) (pa_cons (pv 2) (pa_cons (pe_bltn (v := .ty "tuple") (by rfl) T.m_tuple (by decide +kernel) rfl) pa_nil))))
      (pss_one (ps_expr (pe_bm PySem.F.plainAttrs_list PySem.F.slot_list_append PySem.F.type_list_append mt_append (pv 1) (pa_cons (pe_tup (pa_cons (pe_ix ix_tup (pv 2) pe_int (fun _ _ => rfl)) (pa_cons (pe_ix ix_tup (pv 2) pe_int (fun _ _ => rfl)) pa_nil))) pa_nil))))
      (pss_one (ps_expr (pe_bm PySem.F.plainAttrs_list PySem.F.slot_list_append PySem.F.type_list_append mt_append (pv 1) (pa_cons (pe_callTy call_list_of (by rfl) T.m_list (by decide +kernel) (pa_cons (pv 2) pa_nil)) pa_nil)))))))))
      (pss_one (ps_ret (pv 1))))), ?_⟩
  obtain ⟨xs, hv0, hlx, hat⟩ := hN
  refine ⟨Nat.zero_le _, fun r hr' => ?_⟩
  have sr := same_new (o := .lst []) hr'
  have okA : ∀ L ∈ Ls, L.ok = true := fun L hL => (hnf L hL).ok
  refine ⟨_, rfl, a, rfl, ⟨_, sql (sr _ _ hv0)⟩, for_list (xs := xs) (fun i σ H' => ∃ us y2 y3 y4, σ = [some (.ref a), some (.ref r), y2, y3, y4] ∧ Same H H' ∧ NestV H H' r us (mergeL (Ls.take i)) ∧ us.length ≤ i)
    ⟨[], none, none, none, rfl, sr, NestV.nil upd_same, Nat.le_refl _⟩ (fun i σ H' _ h => by obtain ⟨_, _, _, _, _, sm, _⟩ := h; exact sql (sm _ _ hv0)) (fun i x σ H' hx h => ?_) (fun σ H' h => ?_)⟩
  · obtain ⟨us, y2, y3, y4, rfl, sm, hv, hus⟩ := h
    have hi : i < Ls.length := by
      rw [← hlx]
      exact (List.getElem?_eq_some_iff.mp hx).1
    have hi' := List.getElem?_eq_getElem hi
    have lay0 := hat i x _ hx hi'
    have tk : Ls.take (i + 1) = Ls.take i ++ [Ls[i]] := by rw [List.take_add_one, hi']; rfl
    have hmem := List.getElem_mem hi
    have gL := hnf _ hmem
    have mk : mergeL (Ls.take (i + 1)) = pushL (mergeL (Ls.take i)) Ls[i] := by
      unfold mergeL
      rw [tk, List.foldl_append]
      rfl
    have okT : ∀ L ∈ Ls.take i, L.nf := fun L hL => hnf L (List.mem_of_mem_take hL)
    obtain ⟨mN, mF⟩ := merge_ok okT
    have cl := cnt_le okA hmem
    have hpn := hpl
    have attm : attOf (mergeL (Ls.take i)) ≤ attOf Ls := by
      have h1 := flatL_len _ (mergeL (Ls.take i)) rfl mN.oks
      have h2 := flatL_len _ (Ls.take i) rfl fun L hL => (okT L hL).ok
      rw [mF] at h1
      have h3 := (attOf_part (Ls.take i) (Ls.drop i) (fun L hL => okA L (List.mem_of_mem_drop hL)) fun L hL => (okT L hL).ok).2
      rw [List.take_append_drop] at h3
      omega
    rw [mk]
    have lay := lay0.same sm
    have i9 : i < 90000 := by omega
    have hpi : ∀ ns, Ls[i] = .pol ns → ns.length ≤ 20000 := fun ns e => hpl ns (e ▸ hmem)
    generalize Ls[i] = L at *
    generalize mergeL (Ls.take i) = acc at *
    have put : pushL acc L = acc ++ [L] → (match L with
        | .con wt n => ∀ t, H' t = none → ∃ us2 z2 z3 z4, [some (V.ref a), some (.ref r), some x, y3, y4] = [some (.ref a), some (.ref r), z2, z3, z4] ∧ Same H (upd (upd H' t (.tup [.int wt, .int n])) r (.lst (us ++ [.ref t]))) ∧ NestV H (upd (upd H' t (.tup [.int wt, .int n])) r (.lst (us ++ [.ref t]))) r us2 (pushL acc L) ∧ us2.length ≤ i + 1
        | .pol ns => ∀ t, H' t = none → ∃ us2 z2 z3 z4, [some (V.ref a), some (.ref r), some x, y3, y4] = [some (.ref a), some (.ref r), z2, z3, z4] ∧ Same H (upd (upd H' t (.lst (ns.map V.int))) r (.lst (us ++ [.ref t]))) ∧ NestV H (upd (upd H' t (.lst (ns.map V.int))) r (.lst (us ++ [.ref t]))) r us2 (pushL acc L) ∧ us2.length ≤ i + 1) := fun e => by
      have key : ∀ t o, H' t = none → LayAt (upd H' t o) (.ref t) L → NestV H (upd (upd H' t o) r (.lst (us ++ [.ref t]))) r (us ++ [.ref t]) (acc ++ [L]) := fun t o ht hlay => by
        have tr : t ≠ r := fun z => by rw [z, hv.1] at ht; cases ht
        exact (hv.same (same_new ht)).push hlay tr (sm.free ht)
      have len : (us ++ [V.ref a]).length ≤ i + 1 := by rw [List.length_append]; exact Nat.succ_le_succ hus
      rw [e]
      cases L with
      | con wt n => exact fun t ht => ⟨us ++ [.ref t], some x, y3, y4, rfl, same_keep (sm.trans (same_new ht)) hr', key t _ ht ⟨t, rfl, upd_same⟩, by rw [List.length_append] at len ⊢; exact len⟩
      | pol ns => exact fun t ht => ⟨us ++ [.ref t], some x, y3, y4, rfl, same_keep (sm.trans (same_new ht)) hr', key t _ ht ⟨t, rfl, upd_same⟩, by rw [List.length_append] at len ⊢; exact len⟩
    refine ⟨_, rfl, _, .inl ⟨us, sql hv.1, rfl⟩, ?_⟩
    have lus : (us.length : Nat) < 90000 := by omega
    rcases List.eq_nil_or_concat us with e | ⟨vs, u, e⟩
    · subst e
      have acc0 : acc = [] := List.length_eq_zero_iff.mp hv.2.1.symm
      have hpush : pushL acc L = acc ++ [L] := push_no fun A B z => by rw [acc0] at z; exact absurd z (by simp)
      have put := put hpush
      refine iteF ?_
      cases L with
      | con wt n =>
        obtain ⟨p, rfl, hp⟩ := lay
        refine ⟨_, rfl, _, _, _, _, true, rfl, .ty "tuple", .base (.tup hp), kit_ty (by decide +kernel), true, rfl, iteT ?_⟩
        refine ⟨_, rfl, .inl ⟨rfl, _, sql hv.1⟩, _, rfl, p, _, 0, _, rfl, rfl, sqt hp, rfl, _, rfl, p, _, 1, _, rfl, rfl, sqt hp, rfl, size_le (by show 2 ≤ 100000; decide), fun t ht => ?_⟩
        exact ⟨r, _, _, rfl, rfl, same_new ht _ _ hv.1, size_lt (by show 0 < 100000; decide), put t ht⟩
      | pol ns =>
        obtain ⟨p, rfl, hp⟩ := lay
        refine ⟨_, rfl, _, _, _, _, false, rfl, .ty "tuple", .base (.lst hp), kit_ty (by decide +kernel), false, rfl, iteF ?_⟩
        refine ⟨_, rfl, .inl ⟨rfl, _, sql hv.1⟩, _, rfl, p, _, rfl, .inl (sql hp), fun t ht => ?_⟩
        exact ⟨r, _, _, rfl, rfl, same_new ht _ _ hv.1, size_lt (by show 0 < 100000; decide), put t ht⟩
    · rw [List.concat_eq_append] at e
      subst e
      obtain ⟨A, B, eAB⟩ : ∃ A B, acc = A ++ [B] := by
        rcases List.eq_nil_or_concat acc with z | ⟨A, B, z⟩
        · have := hv.2.1
          rw [z] at this
          simp at this
        · exact ⟨A, B, by rw [z, List.concat_eq_append]⟩
      subst eAB
      have lA : vs.length = A.length := by
        have := hv.2.1
        rw [List.length_append, List.length_append] at this
        exact Nat.succ.inj this
      have layB : LayAt H' u B := hv.2.2.1 vs.length u B (by rw [List.getElem?_append_right (Nat.le_refl _), Nat.sub_self]; rfl) (by rw [lA, List.getElem?_append_right (Nat.le_refl _), Nat.sub_self]; rfl)
      refine (if_pos (by simp)).mpr ?_
      refine ⟨_, rfl, _, rfl, r, _, _, u, rfl, rfl, sql hv.1, atI_last vs u, _, rfl, u, x, B, L, rfl, layB, lay, _, rfl, ?_⟩
      cases hc : sameC B L with
      | true =>
        refine iteT ?_
        cases B with
        | pol ns => cases L <;> cases hc
        | con wt n =>
          cases L with
          | pol ns => cases hc
          | con v m =>
            have ev : wt = v := of_decide_eq_true hc
            subst ev
            obtain ⟨pB, rfl, hpB⟩ := layB
            obtain ⟨p, rfl, hp⟩ := lay
            have hB := mN.1 (.con wt n) (List.mem_append_right _ List.mem_cons_self)
            have cB := cnt_le mN.oks (List.mem_append_right A (List.mem_cons_self (a := Lay.con wt n) (l := [])))
            have cB2 : (Lay.con wt n).cnt = n := rfl
            have cL2 : (Lay.con wt m).cnt = m := rfl
            have nB : 2 ≤ n := hB.2
            have mB : 2 ≤ m := gL.2
            have wm : CMulW n m := wide_mul (a := 9000) (b := 9000) (Nat.lt_of_le_of_lt (show n.natAbs ≤ (attOf Ls).natAbs by omega) hbig) (Nat.lt_of_le_of_lt (show m.natAbs ≤ (attOf Ls).natAbs by omega) hbig) (by decide) (by decide) (by decide)
            refine ⟨_, rfl, _, rfl, r, _, _, .ref pB, rfl, rfl, sql hv.1, atI_last vs _, pB, _, rfl, sqt hpB, rfl, _, _, rfl, _, _, rfl, rfl, ?_⟩
            refine ⟨_, rfl, _, rfl, _, rfl, p, _, 1, _, rfl, rfl, sqt hp, rfl, _, _, rfl, rfl, wm, size_le (by show 2 ≤ 100000; decide), fun t ht => ?_⟩
            have st := same_new (o := .tup [.int wt, .int (n * m)]) ht
            have tr : t ≠ r := fun z => by rw [z, hv.1] at ht; cases ht
            refine ⟨_, rfl, _, rfl, r, _, -1, (vs ++ [V.ref pB]).length - 1, rfl, rfl, st _ _ hv.1, ixN_last (by rw [List.length_append]; exact Nat.succ_pos _), ?_⟩
            have sw := (hv.same st).swap (C := .con wt (n * m)) ⟨t, rfl, upd_same⟩ tr (sm.free ht)
            rw [set_last]
            refine ⟨vs ++ [.ref t], _, _, _, rfl, same_keep (sm.trans st) hr', by rw [push_yes]; exact sw, ?_⟩
            rw [List.length_append] at hus ⊢
            exact Nat.le_succ_of_le hus
      | false =>
        have hpush : pushL (A ++ [B]) L = (A ++ [B]) ++ [L] := push_no fun A' B' z => by
          have := (List.append_inj' z rfl).2
          cases this
          exact hc
        have put := put hpush
        refine iteF ?_
        cases L with
        | con wt n =>
          obtain ⟨p, rfl, hp⟩ := lay
          refine ⟨_, rfl, _, _, _, _, true, rfl, .ty "tuple", .base (.tup hp), kit_ty (by decide +kernel), true, rfl, iteT ?_⟩
          refine ⟨_, rfl, .inl ⟨rfl, _, sql hv.1⟩, _, rfl, p, _, 0, _, rfl, rfl, sqt hp, rfl, _, rfl, p, _, 1, _, rfl, rfl, sqt hp, rfl, size_le (by show 2 ≤ 100000; decide), fun t ht => ?_⟩
          exact ⟨r, _, _, rfl, rfl, same_new ht _ _ hv.1, size_lt (by omega), put t ht⟩
        | pol ns =>
          obtain ⟨p, rfl, hp⟩ := lay
          refine ⟨_, rfl, _, _, _, _, false, rfl, .ty "tuple", .base (.lst hp), kit_ty (by decide +kernel), false, rfl, iteF ?_⟩
          refine ⟨_, rfl, .inl ⟨rfl, _, sql hv.1⟩, _, rfl, p, _, rfl, .inl (sql hp), fun t ht => ?_⟩
          exact ⟨r, _, _, rfl, rfl, same_new ht _ _ hv.1, size_lt (by omega), put t ht⟩
  · obtain ⟨us, y2, y3, y4, rfl, sm, hv, hus⟩ := h
    rw [hlx, List.take_length] at hv
    exact ⟨_, rfl, q H' r us sm hr' hv⟩

end
end Rn
namespace Rn
open PySem PySem.Spec PyProof.Rows L2
section
variable {P : Program} {w : World} {K : PySem.W.Frag} {mg : Str → Option Value} {base : Heap}
theorem nf_pow : ∀ {ls : List Lay}, (∀ L ∈ ls, L.nf) → 2 ^ ls.length ≤ (flatL ls).length + 1
  | [], _ => by show 2 ^ 0 ≤ 0 + 1; decide
  | L :: ls, h => by
    rw [flatL_cons fun M hM => (h M hM).ok, nestL_len, List.length_cons, Nat.pow_succ, Nat.mul_comm]
    have h1 := nf_pow fun M hM => h M (List.mem_cons_of_mem _ hM)
    have h2 : 2 ≤ L.waits.length + 1 := (h L List.mem_cons_self).sz
    exact Nat.mul_le_mul h2 h1
theorem yes_then {σ : L2.St} {H : Hp} {A B : Hp → Prop} (h : A H) : tYes σ H (fun b H3 => if b = true then A H3 else B H3) := by
  change (if true = true then A H else B H)
  exact (if_pos rfl).mpr h
theorem nf_short {ls As Bs : List Lay} (h : ∀ L ∈ ls, L.nf) (e : flatL ls = flatL As) (hA : ∀ L ∈ As, L.ok = true) (hB : ∀ L ∈ Bs, L.ok = true) (hb : (attOf (As ++ Bs)).natAbs < 2 ^ 9000) : ls.length < 9000 := by
  have h1 := nf_pow h
  have h2 := flatL_len _ As rfl hA
  have h3 := (attOf_part As Bs hB hA).2
  rw [e] at h1
  have h4 : 2 ^ ls.length < 2 ^ 9000 := by
    generalize 2 ^ 9000 = B at *
    generalize 2 ^ ls.length = C at *
    omega
  exact (Nat.pow_lt_pow_iff_right (by decide)).mp h4
def sp_normal_form (K : PySem.W.Frag) : Sp := fun vs H Q _ => ∃ (a : Addr) (Ls : List Lay), vs = [.ref a] ∧ NestAt H a Ls ∧ (∀ L ∈ Ls, L.ok = true) ∧ Ls.length ≤ 20000 ∧ (attOf Ls).natAbs < 2 ^ 9000 ∧ (∀ ns, Lay.pol ns ∈ Ls → ns.length ≤ 20000) ∧
  ∀ H' r us Ms, Same H H' → H r = none → NestV H H' r us Ms → NF Ms → flatL Ms = flatL Ls → Q (.ref r) H'
theorem ok_normal_form (T : Txt K mg) : FnOk P w K mg base CX0 6 T.f_normal_form T.d_normal_form ["nesting"] (sp_normal_form K) := by
  have G_check_nesting := (ok_check_nesting (P := P) (w := w) (base := base) T).mono (by decide : 3 ≤ 5)
  have G_merged := (ok_merged (P := P) (w := w) (base := base) T).mono (by decide : 2 ≤ 5)
  have G_layer_parts := (ok_layer_parts (P := P) (w := w) (base := base) T)
  refine T.F_normal_form.ok sc_normal_form (fun vs H Q E h => ?_) (fun cdv A outer s H vs Q E hr h => ?_)
  · obtain ⟨a, Ls, rfl, _⟩ := h
    rfl
  obtain ⟨a, Ls, rfl, hN, hok, hl4, hbig, hpl, q⟩ := h
  refine ⟨_, (pss_cons (ps_expr (pe_call G_check_nesting hr (by rfl) T.g_check_nesting T.F_check_nesting.kp T.b_check_nesting .nil pass0 (pa_cons (pv 0) pa_nil)))
      (pss_one (ps_ret (pe_call G_merged hr (by rfl) T.g_merged T.F_merged.kp T.b_merged .nil pass0 (pa_cons (pe_lc2 (own := [("layer", 1), ("part", 2)]) (vs1 := [2]) (g := gName 1) (g1 := gName 2) (tt := tYes) (tt1 := tYes) rfl sc_normal_form.nd (pi_list (pv 0)) (blkOk_by (N := ["nesting", "layer", "part"]) (sc := defScope s_normal_form) (by decide +kernel)) (by decide) (fun _ _ _ _ _ => (pg_name (i := 1) sc_normal_form.nd rfl (Or.inl rfl))) (fun _ _ _ _ _ => pts_nil) (fun _ _ _ _ _ => (pi_listK (K := K) rfl (pe_call G_layer_parts hr (by rfl) T.g_layer_parts T.F_layer_parts.kp T.b_layer_parts .nil pass0 (pa_cons (pv 1) pa_nil)))) (fun _ _ _ _ _ => (pg_name (i := 2) sc_normal_form.nd rfl (Or.inl rfl))) (fun _ _ _ _ _ => pts_nil) (fun _ _ _ _ _ => (pv 2))) pa_nil))))), ?_⟩
  refine ⟨_, rfl, a, Ls, rfl, hN, hok, fun H1 s1 => ?_⟩
  obtain ⟨xs, hv0, hlx, hat⟩ := id (hN.same s1)
  refine ⟨_, rfl, a, rfl, ⟨_, sql hv0⟩, fun D hD => ?_⟩
  have hbig2 : ∀ i, (attOf (Ls.take i ++ Ls.drop i)).natAbs < 2 ^ 9000 := fun i => by rw [List.take_append_drop]; exact hbig
  have okT : ∀ i, ∀ L ∈ Ls.take i, L.ok = true := fun i L hL => hok L (List.mem_of_mem_take hL)
  have okD : ∀ i, ∀ L ∈ Ls.drop i, L.ok = true := fun i L hL => hok L (List.mem_of_mem_drop hL)
  refine out_list (vs := []) (σ := []) (xs := xs) (fun i H' => ∃ us Ms, Same H1 H' ∧ NestV N0 H' D us Ms ∧ (∀ M ∈ Ms, M.nf) ∧ (∀ ns, Lay.pol ns ∈ Ms → ns.length ≤ 20000) ∧ flatL Ms = flatL (Ls.take i))
    ⟨[], [], same_new hD, NestV.nil upd_same, (fun _ z => nomatch z), (fun _ z => nomatch z), rfl⟩ (fun i H' _ h => by obtain ⟨_, _, sm, _⟩ := h; exact sql (sm _ _ hv0)) (fun i x H2 hx h => ?_) (fun H2 h => ?_)
  · obtain ⟨us, Ms, sm, hv, hnf, hpm, hflat⟩ := h
    have hi : i < Ls.length := by
      rw [← hlx]
      exact (List.getElem?_eq_some_iff.mp hx).1
    have hi' := List.getElem?_eq_getElem hi
    have lay := (hat i x _ hx hi').same sm
    have hmem := List.getElem_mem hi
    have tk : Ls.take (i + 1) = Ls.take i ++ [Ls[i]] := by rw [List.take_add_one, hi']; rfl
    have lok := hok _ hmem
    have lpl : ∀ ns, Ls[i] = .pol ns → ns.length ≤ 20000 := fun ns e => hpl ns (e ▸ hmem)
    have msl := nf_short hnf hflat (okT i) (okD i) (hbig2 i)
    generalize Ls[i] = L at *
    refine ⟨rfl, yes_then ?_⟩
    refine ⟨_, rfl, x, L, rfl, lay, lok, lpl, fun H4 r us4 Ms4 sm4 fr hv4 hl4' hnf4 hpl4 hflat4 => ⟨r, rfl, ⟨_, sql hv4.1⟩, ?_⟩⟩
    have hv2 := hv.same sm4
    have rD : r ≠ D := fun z => by rw [z, hv.1] at fr; cases fr
    have lus : us.length < 9000 := by rw [hv.2.1]; exact msl
    have lus4 : us4.length ≤ 20000 := by rw [hv4.2.1]; exact hl4'
    refine in_list (ys := us4) (fun j H' => NestV N0 H' D (us ++ us4.take j) (Ms ++ Ms4.take j) ∧ ∀ b, b ≠ D → H' b = H4 b) ⟨by rw [List.take_zero, List.take_zero, List.append_nil, List.append_nil]; exact hv2, fun _ _ => rfl⟩ (fun j H' _ h => sql ((h.2 r rD).trans hv4.1)) (fun j y H' hy h => ?_) (fun H' h => ?_)
    · obtain ⟨hw, hkeep⟩ := h
      have hj : j < us4.length := (List.getElem?_eq_some_iff.mp hy).1
      have hj2 : j < Ms4.length := by rw [← hv4.2.1]; exact hj
      have hm := List.getElem?_eq_getElem hj2
      have lay4 := hv4.2.2.1 j y _ hy hm
      have nfj := hnf4 _ (List.getElem_mem hj2)
      have tu : us4.take (j + 1) = us4.take j ++ [y] := by rw [List.take_add_one, hy]; rfl
      have tm : Ms4.take (j + 1) = Ms4.take j ++ [Ms4[j]] := by rw [List.take_add_one, hm]; rfl
      generalize Ms4[j] = M at *
      obtain ⟨e, rfl⟩ := lay4.ref
      have eD : e ≠ D := fun z => by
        subst z
        have hD4 := hv2.1
        cases M with
        | con wt n =>
          obtain ⟨p, e1, e2⟩ := lay4
          cases e1
          rw [hD4] at e2
          cases e2
        | pol ns =>
          obtain ⟨p, e1, e2⟩ := lay4
          cases e1
          rw [hD4] at e2
          injection (Option.some.inj e2) with e3
          obtain ⟨n0, hn0⟩ : ∃ n0, ns[0]? = some n0 := ⟨ns[0]'nfj.1.1, List.getElem?_eq_getElem nfj.1.1⟩
          have e4 : us[0]? = some (.int n0) := by rw [e3, List.getElem?_map, hn0]; rfl
          obtain ⟨hl0, _⟩ := List.getElem?_eq_some_iff.mp e4
          have hl1 : 0 < Ms.length := by rw [← hv.2.1]; exact hl0
          obtain ⟨z, hz⟩ := (hv.2.2.1 0 _ _ e4 (List.getElem?_eq_getElem hl1)).ref
          cases hz
      have layn : LayAt H' (.ref e) M := by
        cases M with
        | con wt n =>
          obtain ⟨p, e1, e2⟩ := lay4
          cases e1
          exact ⟨_, rfl, (hkeep _ eD).trans e2⟩
        | pol ns =>
          obtain ⟨p, e1, e2⟩ := lay4
          cases e1
          exact ⟨_, rfl, (hkeep _ eD).trans e2⟩
      refine ⟨rfl, yes_then ⟨_, rfl, _, hw.1, size_lt (by rw [List.length_append, List.length_take]; omega), ?_, fun b hb => ?_⟩⟩
      · have := hw.push layn eD rfl
        rw [List.append_assoc, List.append_assoc, ← tu, ← tm] at this
        rw [List.append_assoc, ← tu]
        exact this
      · rw [upd_ne hb]
        exact hkeep b hb
    · obtain ⟨hw, hkeep⟩ := h
      rw [List.take_length, hv4.2.1, List.take_length] at hw
      refine ⟨us ++ us4, Ms ++ Ms4, fun b o hb => ?_, hw, fun M hM => ?_, fun ns hM => ?_, ?_⟩
      · have bD : b ≠ D := fun z => by rw [z, hD] at hb; cases hb
        rw [hkeep b bD]
        exact sm4 _ _ (sm _ _ hb)
      · rcases List.mem_append.mp hM with z | z
        · exact hnf M z
        · exact hnf4 M z
      · rcases List.mem_append.mp hM with z | z
        · exact hpm ns z
        · exact hpl4 ns z
      · rw [tk, flat_app (fun M hM => (hnf M hM).ok) (fun M hM => (hnf4 M hM).ok), flatF (okT i) _ lok, hflat, hflat4]
  · obtain ⟨us, Ms, sm, hv, hnf, hpm, hflat⟩ := h
    rw [hlx] at hflat
    have msl := nf_short hnf hflat (okT _) (okD _) (hbig2 _)
    have hflat2 := hflat
    rw [List.take_length] at hflat2
    obtain ⟨mN, mF⟩ := merge_ok hnf
    have e1 := flatL_len _ Ms rfl fun M hM => (hnf M hM).ok
    have e2 := flatL_len _ Ls rfl hok
    rw [hflat2] at e1
    exact ⟨D, Ms, rfl, hv.nest, hnf, by omega, by rw [← e1, e2]; exact hbig, hpm, fun H' r us' sm2 fr hv' => q H' r us' (mergeL Ms) (s1.trans (sm.trans sm2)) ((s1.trans sm).free fr) ⟨hv'.1, hv'.2.1, hv'.2.2.1, fun x hx => ⟨(hv'.2.2.2 x hx).1, (s1.trans sm).free (hv'.2.2.2 x hx).2⟩⟩ mN (mF.trans hflat2)⟩

end
end Rn
namespace Rn
open PySem PySem.Spec PyProof.Rows L2
section
variable {P : Program} {w : World} {K : PySem.W.Frag} {mg : Str → Option Value} {base : Heap}
def sp_is_unsplittable (K : PySem.W.Frag) : Sp := fun vs H Q _ => ∃ (a : Addr) (ws : List Int), vs = [.ref a] ∧ SqL K H a (ws.map V.int) ∧ ws.length ≤ 20000 ∧ (∀ x ∈ ws, 0 ≤ x) ∧ ∀ H', Same H H' → Q (.bl (unsB ws)) H'
theorem ok_is_unsplittable (T : Txt K mg) : FnOk P w K mg base CX0 4 T.f_is_unsplittable T.d_is_unsplittable ["waits"] (sp_is_unsplittable K) := by
  have G_check_waits := (ok_check_waits (P := P) (w := w) (base := base) T).mono (by decide : 2 ≤ 3)
  have G_smallest_inner_number := (ok_smallest_inner_number (P := P) (w := w) (base := base) T)
  refine T.F_is_unsplittable.ok sc_is_unsplittable (fun vs H Q E h => ?_) (fun cdv A outer s H vs Q E hr h => ?_)
  · obtain ⟨a, ws, rfl, _⟩ := h
    rfl
  obtain ⟨a, ws, rfl, hS, hl, hn, q⟩ := h
  refine ⟨_, (pss_cons (ps_expr (pe_call G_check_waits hr (by rfl) T.g_check_waits T.F_check_waits.kp T.b_check_waits .nil pass0 (pa_cons (pv 0) pa_nil)))
      (pss_one (ps_ret (pe_and (pe_cmpR op_gt (pe_callB call_len_seq (by rfl) T.m_len PySem.boot_len (pa_cons (pv 0) pa_nil)) pe_int (nomark _)) (pe_one (pe_cmpR op_eq (pe_call G_smallest_inner_number hr (by rfl) T.g_smallest_inner_number T.F_smallest_inner_number.kp T.b_smallest_inner_number .nil pass0 (pa_cons (pv 0) pa_nil)) (pe_op op_add (pe_callB call_len_seq (by rfl) T.m_len PySem.boot_len (pa_cons (pv 0) pa_nil)) pe_int) (nomark _))))))), ?_⟩
  refine ⟨_, rfl, a, ws, rfl, hS, hn, fun H1 s1 => ?_⟩
  refine ⟨_, rfl, a, _, rfl, .inl (s1.seq hS), _, _, rfl, rfl, decide ((0 : Int) < (ws.length : Int)), by rw [List.length_map], ?_⟩
  refine ite2 (fun e => ?_) (fun e => ?_)
  · have h0 : 0 < ws.length := by have := of_decide_eq_true e; omega
    refine ⟨_, rfl, a, ws, rfl, s1.seq hS, hl, fun H2 m s2 hm => ?_⟩
    refine ⟨_, rfl, a, _, rfl, .inl ((s1.trans s2).seq hS), _, _, rfl, rfl, rfl, ?_⟩
    have e2 : decide (V.int (m : Nat) = V.int (((ws.map V.int).length : Nat) + 1)) = unsB ws := by
      rw [List.length_map, Bool.eq_iff_iff, decide_eq_true_eq, uns_iff, ← sm_uns hm h0]
      constructor
      · intro z
        injection z with z
        omega
      · intro z
        rw [z]
        push_cast
        rfl
    show Q (V.bl (decide (V.int (m : Nat) = V.int (((ws.map V.int).length : Nat) + 1)))) H2
    rw [e2]
    exact q H2 (s1.trans s2)
  · have h0 : ¬ 0 < ws.length := by
      have := of_decide_eq_false (Bool.eq_false_iff.mpr e)
      omega
    have := q H1 s1
    have e2 : unsB ws = false := by
      unfold unsB
      rw [decide_eq_false h0, Bool.false_and]
    rw [e2] at this
    exact this

end
end Rn
namespace Rn
open PySem PySem.Spec PyProof.Rows L2
section
variable {P : Program} {w : World} {K : PySem.W.Frag} {mg : Str → Option Value} {base : Heap}
def sp_same_policy (K : PySem.W.Frag) : Sp := fun vs H Q _ => ∃ (a b : Addr) (Ls Ms : List Lay), vs = [.ref a, .ref b] ∧ NestAt H a Ls ∧ NestAt H b Ms ∧ (∀ L ∈ Ls, L.ok = true) ∧ (∀ L ∈ Ms, L.ok = true) ∧ Ls.length ≤ 20000 ∧ Ms.length ≤ 20000 ∧ (attOf Ls).natAbs < 2 ^ 9000 ∧ (attOf Ms).natAbs < 2 ^ 9000 ∧
  (∀ ns, Lay.pol ns ∈ Ls → ns.length ≤ 20000) ∧ (∀ ns, Lay.pol ns ∈ Ms → ns.length ≤ 20000) ∧ ∀ H', Same H H' → Q (.bl (decide (flatL Ls = flatL Ms))) H'
theorem nf_eq {As Bs Ls Ms : List Lay} (hA : NF As) (hB : NF Bs) (e1 : flatL As = flatL Ls) (e2 : flatL Bs = flatL Ms) : laysB As Bs = decide (flatL Ls = flatL Ms) := by
  rw [Bool.eq_iff_iff, laysB_iff, decide_eq_true_eq, ← e1, ← e2]
  exact ⟨fun z => by rw [z], fun z => nf_unique hA hB z⟩
theorem ok_same_policy (T : Txt K mg) : FnOk P w K mg base CX0 7 T.f_same_policy T.d_same_policy ["first", "second"] (sp_same_policy K) := by
  have G_normal_form := (ok_normal_form (P := P) (w := w) (base := base) T)
  refine T.F_same_policy.ok sc_same_policy (fun vs H Q E h => ?_) (fun cdv A outer s H vs Q E hr h => ?_)
  · obtain ⟨a, b, Ls, Ms, rfl, _⟩ := h
    rfl
  obtain ⟨a, b, Ls, Ms, rfl, ha, hb, okL, okM, lL, lM, bL, bM, pL, pM, q⟩ := h
  refine ⟨_, (pss_one (ps_ret (pe_cmpR (op_eqD hr.units) (pe_call G_normal_form hr (by rfl) T.g_normal_form T.F_normal_form.kp T.b_normal_form .nil pass0 (pa_cons (pv 0) pa_nil)) (pe_call G_normal_form hr (by rfl) T.g_normal_form T.F_normal_form.kp T.b_normal_form .nil pass0 (pa_cons (pv 1) pa_nil)) (nomark _)))), ?_⟩
  refine ⟨_, rfl, a, Ls, rfl, ha, okL, lL, bL, pL, fun H1 t us As s1 f1 v1 n1 e1 => ?_⟩
  refine ⟨_, rfl, b, Ms, rfl, hb.same s1, okM, lM, bM, pM, fun H2 u vs Bs s2 f2 v2 n2 e2 => ?_⟩
  refine ⟨_, _, dp_nest (v1.nest.same s2), dp_nest v2.nest, shaped_lays _, shaped_lays _, ?_⟩
  rw [eqv_lays, nf_eq n1 n2 e1 e2]
  exact q H2 (s1.trans s2)

end
end Rn
namespace Rn
open PySem PySem.Spec PyProof.Rows L2
section
variable {P : Program} {w : World} {K : PySem.W.Frag} {mg : Str → Option Value} {base : Heap}
def sp_check_size (K : PySem.W.Frag) : Sp := fun vs H Q _ => ∃ n : Int, vs = [.int n] ∧ n ≤ 10000 ∧ Q .non H
theorem ok_check_size (T : Txt K mg) : FnOk P w K mg base CX0 1 T.f_check_size T.d_check_size ["total"] (sp_check_size K) := by
  refine T.F_check_size.ok sc_check_size (fun vs H Q E h => ?_) (fun cdv A outer s H vs Q E hr h => ?_)
  · obtain ⟨n, rfl, _⟩ := h
    rfl
  obtain ⟨n, rfl, hn, q⟩ := h
  refine ⟨_, (pss_one (ps_if (pt_cmpR op_gt (pv 0) (pe_glob (v := .int 10000) rfl T.c_MOST_ATTEMPTS ⟨_, rfl⟩) (nomark _))
      (pss_one ps_never)
      pss_nil)), ?_⟩
  refine ⟨_, rfl, _, _, rfl, rfl, _, rfl, ite2 (fun e => ?_) (fun _ => q)⟩
  have := of_decide_eq_true e
  omega

end
end Rn
namespace Rn
open PySem PySem.Spec PyProof.Rows L2
section
variable {P : Program} {w : World} {K : PySem.W.Frag} {mg : Str → Option Value} {base : Heap}
def sp_nested (K : PySem.W.Frag) : Sp := fun vs H Q _ => ∃ (p q : Addr) (xs ys : List V), vs = [.ref p, .ref q] ∧ H p = some (.lst xs) ∧ H q = some (.lst ys) ∧ (xs.length + 1) * (ys.length + 1) ≤ 100000 ∧
  ∀ H' r, Same H H' → H r = none → H' r = some (.lst (nestL xs ys)) → Q (.ref r) H'
theorem ok_nested (T : Txt K mg) : FnOk P w K mg base CX0 1 T.f_nested T.d_nested ["inner", "outer"] (sp_nested K) := by
  refine T.F_nested.ok sc_nested (fun vs H Q E h => ?_) (fun cdv A outer s H vs Q E hr h => ?_)
  · obtain ⟨p, q, xs, ys, rfl, _⟩ := h
    rfl
  obtain ⟨p, q, xs, ys, rfl, hp, hq, hz, k⟩ := h
  refine ⟨_, (pss_cons (ps_set (i := 2) sc_nested.nd rfl (Or.inl rfl) (pe_callTy call_list_of (by rfl) T.m_list (by decide +kernel) (pa_cons (pv 0) pa_nil)))
      (pss_cons (ps_for PassesOwn.never rfl (pi_list (pv 1)) (pg_name (i := 3) sc_nested.nd rfl (Or.inl rfl))
      (pss_cons (ps_expr (pe_bm PySem.F.plainAttrs_list PySem.F.slot_list_append PySem.F.type_list_append mt_append (pv 2) (pa_cons (pv 3) pa_nil)))
      (pss_one (ps_expr (pe_bm PySem.F.plainAttrs_list PySem.F.slot_list_extend PySem.F.type_list_extend mt_extend (pv 2) (pa_cons (pv 0) pa_nil))))))
      (pss_one (ps_ret (pv 2))))), ?_⟩
  refine ⟨_, rfl, p, xs, rfl, .inl (sql hp), fun r hr => ?_⟩
  have np : p ≠ r := ne_of_none hp hr
  have nq : q ≠ r := ne_of_none hq hr
  refine ⟨_, rfl, q, rfl, ⟨ys, sql (by rw [upd_ne nq]; exact hq)⟩, for_list (xs := ys) (fun i σ H' => (∃ y3, σ = [some (.ref p), some (.ref q), some (.ref r), y3]) ∧ Same H H' ∧ H' r = some (.lst (nestL xs (ys.take i))))
    ⟨⟨none, rfl⟩, same_new hr, by rw [upd_same, List.take_zero, nestL_nil]⟩ (fun i σ H' _ h => h.2.1.seq (sql hq)) (fun i x σ H' hx h => ?_) (fun σ H' h => ?_)⟩
  · obtain ⟨⟨y3, rfl⟩, sm, hr'⟩ := h
    have hi : i < ys.length := (List.getElem?_eq_some_iff.mp hx).1
    have e1 := nestL_len xs (ys.take i)
    rw [List.length_take, Nat.min_eq_left (Nat.le_of_lt hi)] at e1
    have e2 : (xs.length + 1) * (i + 1) + (xs.length + 1) ≤ (xs.length + 1) * (ys.length + 1) := by
      rw [← Nat.mul_succ]
      exact Nat.mul_le_mul_left _ (by omega)
    -- waits.append(wait)
    refine ⟨_, rfl, .inl ⟨rfl, _, sql hr'⟩, _, rfl, r, _, _, rfl, rfl, hr', size_lt (by omega), ?_⟩
    -- waits.extend(inner)
    refine ⟨_, rfl, .inl ⟨rfl, _, sql upd_same⟩, _, rfl, r, p, _, xs, rfl, rfl, upd_same, by rw [upd_ne np]; exact sm _ _ hp, size_le (by rw [List.length_append]; show (nestL xs (ys.take i)).length + 1 + xs.length ≤ 100000; omega), ?_⟩
    refine ⟨⟨_, rfl⟩, same_keep (same_keep sm hr) hr, ?_⟩
    rw [upd_same, List.take_add_one, hx]
    unfold nestL
    simp [List.flatMap_append, List.append_assoc]
  · obtain ⟨⟨y3, rfl⟩, sm, hr'⟩ := h
    rw [List.take_length] at hr'
    exact ⟨_, rfl, k H' r sm hr hr'⟩

end
end Rn
namespace Rn
open PySem PySem.Spec PyProof.Rows L2
section
variable {P : Program} {w : World} {K : PySem.W.Frag} {mg : Str → Option Value} {base : Heap}
def sp_layer_attempts (K : PySem.W.Frag) : Sp := fun vs H Q _ => ∃ (v : V) (L : Lay), vs = [v] ∧ LayAt H v L ∧ Q (.int L.cnt) H
theorem ok_layer_attempts (T : Txt K mg) : FnOk P w K mg base CX0 1 T.f_layer_attempts T.d_layer_attempts ["layer"] (sp_layer_attempts K) := by
  refine T.F_layer_attempts.ok sc_layer_attempts (fun vs H Q E h => ?_) (fun cdv A outer s H vs Q E hr h => ?_)
  · obtain ⟨v, L, rfl, _⟩ := h
    rfl
  obtain ⟨v, L, rfl, hL, q⟩ := h
  refine ⟨_, (pss_cons (ps_if (pt_val (pe_callB call_isi (by rfl) T.m_isinstance (by decide +kernel) (pa_cons (pv 0) (pa_cons (pe_bltn (v := .ty "tuple") (by rfl) T.m_tuple (by decide +kernel) rfl) pa_nil))))
      (pss_one (ps_ret (pe_ix ix_tup (pv 0) pe_int (fun _ _ => rfl))))
      pss_nil)
      (pss_one (ps_ret (pe_op op_add (pe_callB call_len_seq (by rfl) T.m_len PySem.boot_len (pa_cons (pv 0) pa_nil)) pe_int)))), ?_⟩
  cases L with
  | con wt n =>
    obtain ⟨p, rfl, hp⟩ := hL
    exact ⟨_, rfl, _, _, _, _, true, rfl, .ty "tuple", .base (.tup hp), kit_ty (by decide +kernel), true, rfl, iteT ⟨_, rfl, p, _, 1, _, rfl, rfl, sqt hp, rfl, q⟩⟩
  | pol ns =>
    obtain ⟨p, rfl, hp⟩ := hL
    refine ⟨_, rfl, _, _, _, _, false, rfl, .ty "tuple", .base (.lst hp), kit_ty (by decide +kernel), false, rfl, iteF ⟨_, rfl, p, _, rfl, .inl (sql hp), _, _, rfl, rfl, ?_⟩⟩
    rw [List.length_map]
    exact q

end
end Rn
namespace Rn
open PySem PySem.Spec PyProof.Rows L2
section
variable {P : Program} {w : World} {K : PySem.W.Frag} {mg : Str → Option Value} {base : Heap}
def sp_layer_waits (K : PySem.W.Frag) : Sp := fun vs H Q _ => ∃ (v : V) (L : Lay), vs = [v] ∧ LayAt H v L ∧ 1 ≤ L.cnt ∧ L.cnt ≤ 20000 ∧
  ∀ H' r, Same H H' → H r = none → H' r = some (.lst (L.waits.map V.int)) → Q (.ref r) H'
theorem ok_layer_waits (T : Txt K mg) : FnOk P w K mg base CX0 1 T.f_layer_waits T.d_layer_waits ["layer"] (sp_layer_waits K) := by
  refine T.F_layer_waits.ok sc_layer_waits (fun vs H Q E h => ?_) (fun cdv A outer s H vs Q E hr h => ?_)
  · obtain ⟨v, L, rfl, _⟩ := h
    rfl
  obtain ⟨v, L, rfl, hL, h1, h2, q⟩ := h
  refine ⟨_, (pss_cons (ps_if (pt_val (pe_callB call_isi (by rfl) T.m_isinstance (by decide +kernel) (pa_cons (pv 0) (pa_cons (pe_bltn (v := .ty "tuple") (by rfl) T.m_tuple (by decide +kernel) rfl) pa_nil))))
      (pss_cons (ps_asg (pv 0) (pg_tup rfl (pgs_cons (pg_name (i := 1) sc_layer_waits.nd rfl (Or.inl rfl)) (pgs_cons (pg_name (i := 2) sc_layer_waits.nd rfl (Or.inl rfl)) pgs_nil))))
      (pss_one (ps_ret (pe_op op_rep (pe_lst (pa_cons (pv 1) pa_nil)) (pe_op op_sub (pv 2) pe_int)))))
      pss_nil)
      (pss_one (ps_ret (pe_callTy call_list_of (by rfl) T.m_list (by decide +kernel) (pa_cons (pv 0) pa_nil))))), ?_⟩
  cases L with
  | con wt n =>
    have h1' : 1 ≤ n := h1
    have h2' : n ≤ 20000 := h2
    obtain ⟨p, rfl, hp⟩ := hL
    refine ⟨_, rfl, _, _, _, _, true, rfl, .ty "tuple", .base (.tup hp), kit_ty (by decide +kernel), true, rfl, iteT ?_⟩
    refine ⟨_, rfl, p, _, rfl, sqt hp, rfl, _, _, rfl, _, _, rfl, rfl, ?_⟩
    refine ⟨_, rfl, size_le (by show 1 ≤ 100000; decide), fun o ho => ?_⟩
    refine ⟨_, rfl, _, _, rfl, rfl, o, n - 1, _, rfl, rfl, upd_same, by omega, by omega, size_le (by simp; omega), fun r hr => ?_⟩
    refine q _ r (same_keep (same_new ho) ?_) ?_ ?_
    · exact (same_new ho).free hr
    · exact (same_new ho).free hr
    · rw [upd_same]
      show _ = some (HO.lst ((List.replicate (n - 1).toNat wt).map V.int))
      rw [List.map_replicate]
      congr 2
      generalize (n - 1).toNat = m
      induction m with
      | zero => rfl
      | succ m ih => rw [List.replicate_succ, List.flatten_cons, ih, List.replicate_succ]; rfl
  | pol ns =>
    obtain ⟨p, rfl, hp⟩ := hL
    refine ⟨_, rfl, _, _, _, _, false, rfl, .ty "tuple", .base (.lst hp), kit_ty (by decide +kernel), false, rfl, iteF ⟨_, rfl, p, _, rfl, .inl (sql hp), fun r hr => ?_⟩⟩
    exact q _ r (same_new hr) hr upd_same

end
end Rn
namespace Rn
open PySem PySem.Spec PyProof.Rows L2
section
variable {P : Program} {w : World} {K : PySem.W.Frag} {mg : Str → Option Value} {base : Heap}
def sp_attempts (K : PySem.W.Frag) : Sp := fun vs H Q _ => ∃ (a : Addr) (Ls : List Lay), vs = [.ref a] ∧ NestAt H a Ls ∧ (∀ L ∈ Ls, L.ok = true ∧ L.cnt < 2 ^ 100) ∧ Ls.length ≤ 5000 ∧ ∀ H', Same H H' → Q (.int (attOf Ls)) H'
theorem ok_attempts (T : Txt K mg) : FnOk P w K mg base CX0 4 T.f_attempts T.d_attempts ["nesting"] (sp_attempts K) := by
  have G_check_nesting := ok_check_nesting (P := P) (w := w) (base := base) T
  have G_layer_attempts := (ok_layer_attempts (P := P) (w := w) (base := base) T).mono (by decide : 1 ≤ 3)
  refine T.F_attempts.ok sc_attempts (fun vs H Q E h => ?_) (fun cdv A outer s H vs Q E hr h => ?_)
  · obtain ⟨a, Ls, rfl, _⟩ := h
    rfl
  obtain ⟨a, Ls, rfl, hN, hok, hz, q⟩ := h
  refine ⟨_, (pss_cons (ps_expr (pe_call G_check_nesting hr (by rfl) T.g_check_nesting T.F_check_nesting.kp T.b_check_nesting .nil pass0 (pa_cons (pv 0) pa_nil)))
      (pss_cons (ps_set (i := 1) sc_attempts.nd rfl (Or.inl rfl) pe_int)
      (pss_cons (ps_for PassesOwn.never rfl (pi_list (pv 0)) (pg_name (i := 2) sc_attempts.nd rfl (Or.inl rfl))
      (pss_one (ps_set (i := 1) sc_attempts.nd rfl (Or.inl rfl) (pe_op op_mulW (pv 1) (pe_call G_layer_attempts hr (by rfl) T.g_layer_attempts T.F_layer_attempts.kp T.b_layer_attempts .nil pass0 (pa_cons (pv 2) pa_nil))))))
      (pss_one (ps_ret (pv 1)))))), ?_⟩
  refine ⟨_, rfl, a, Ls, rfl, hN, fun L hL => (hok L hL).1, fun H1 s1 => ?_⟩
  obtain ⟨vs, hv, hl, hat⟩ := id (hN.same s1)
  refine ⟨_, rfl, a, rfl, ⟨vs, sql hv⟩, for_list (xs := vs) (fun i σ H' => (∃ y2, σ = [some (.ref a), some (.int (attOf (Ls.take i))), y2]) ∧ H' = H1) ⟨⟨none, rfl⟩, rfl⟩ (fun i σ H' _ h => by rw [h.2]; exact sql hv) (fun i x σ H' hx h => ?_) (fun σ H' h => ?_)⟩
  · obtain ⟨⟨y2, rfl⟩, rfl⟩ := h
    have hi : i < Ls.length := by
      rw [← hl]
      exact (List.getElem?_eq_some_iff.mp hx).1
    have hi' := List.getElem?_eq_getElem hi
    obtain ⟨i1, i2⟩ := attOf_lt i (Ls.take i) (by rw [List.length_take]; omega) fun L hL => hok L (List.mem_of_mem_take hL)
    obtain ⟨h1, h2⟩ := hok _ (List.getElem_mem hi)
    have h3 := LayAt.con_pos h1
    refine ⟨_, rfl, _, rfl, x, Ls[i], rfl, hat i x _ hx hi', _, _, rfl, rfl, wide_mul (b := 100) i2 (by omega) (by omega) (by decide) (by omega), ⟨some x, ?_⟩, rfl⟩
    rw [List.take_add_one, hi', Option.toList_some, attOf_snoc]
    rfl
  · obtain ⟨⟨y2, rfl⟩, rfl⟩ := h
    refine ⟨_, rfl, ?_⟩
    rw [hl, List.take_length]
    exact q _ s1

end
end Rn
namespace Rn
open PySem PySem.Spec PyProof.Rows L2
section
variable {P : Program} {w : World} {K : PySem.W.Frag} {mg : Str → Option Value} {base : Heap}
def sp_flatten (K : PySem.W.Frag) : Sp := fun vs H Q _ => ∃ (a : Addr) (Ls : List Lay), vs = [.ref a] ∧ NestAt H a Ls ∧ (∀ L ∈ Ls, L.ok = true) ∧ Ls.length ≤ 5000 ∧ attOf Ls ≤ 10000 ∧
  ∀ H' r, Same H H' → H r = none → H' r = some (.lst ((flatL Ls).map V.int)) → Q (.ref r) H'
theorem ok_flatten (T : Txt K mg) : FnOk P w K mg base CX0 5 T.f_flatten T.d_flatten ["nesting"] (sp_flatten K) := by
  have G_attempts := ok_attempts (P := P) (w := w) (base := base) T
  have G_check_size := (ok_check_size (P := P) (w := w) (base := base) T).mono (by decide : 1 ≤ 4)
  have G_layer_attempts := (ok_layer_attempts (P := P) (w := w) (base := base) T).mono (by decide : 1 ≤ 4)
  have G_layer_waits := (ok_layer_waits (P := P) (w := w) (base := base) T).mono (by decide : 1 ≤ 4)
  have G_nested := (ok_nested (P := P) (w := w) (base := base) T).mono (by decide : 1 ≤ 4)
  refine T.F_flatten.ok sc_flatten (fun vs H Q E h => ?_) (fun cdv A outer s H vs Q E hr h => ?_)
  · obtain ⟨a, Ls, rfl, _⟩ := h
    rfl
  obtain ⟨a, Ls, rfl, hN, hok, hz, hsz, q⟩ := h
  refine ⟨_, (pss_cons (ps_expr (pe_call G_check_size hr (by rfl) T.g_check_size T.F_check_size.kp T.b_check_size .nil pass0 (pa_cons (pe_call G_attempts hr (by rfl) T.g_attempts T.F_attempts.kp T.b_attempts .nil pass0 (pa_cons (pv 0) pa_nil)) pa_nil)))
      (pss_cons (ps_set (i := 1) sc_flatten.nd rfl (Or.inl rfl) (pe_lst pa_nil))
      (pss_cons (ps_for PassesOwn.never rfl (pi_list (pv 0)) (pg_name (i := 2) sc_flatten.nd rfl (Or.inl rfl))
      (pss_one (ps_if (pt_cmpR op_gt (pe_call G_layer_attempts hr (by rfl) T.g_layer_attempts T.F_layer_attempts.kp T.b_layer_attempts .nil pass0 (pa_cons (pv 2) pa_nil)) pe_int (nomark _))
      (pss_one (ps_set (i := 1) sc_flatten.nd rfl (Or.inl rfl) (pe_call G_nested hr (by rfl) T.g_nested T.F_nested.kp T.b_nested .nil pass0 (pa_cons (pv 1) (pa_cons (pe_call G_layer_waits hr (by rfl) T.g_layer_waits T.F_layer_waits.kp T.b_layer_waits .nil pass0 (pa_cons (pv 2) pa_nil)) pa_nil)))))
      pss_nil)))
      (pss_one (ps_ret (pv 1)))))), ?_⟩
  have big : ∀ L ∈ Ls, L.ok = true ∧ L.cnt < 2 ^ 100 := fun L hL => ⟨hok L hL, by have := cnt_le hok hL; omega⟩
  refine ⟨_, rfl, a, Ls, rfl, hN, big, hz, fun H1 s1 => ⟨_, rfl, hsz, ?_⟩⟩
  refine ⟨Nat.zero_le _, fun r hr => ?_⟩
  have s2 : Same H (upd H1 r (.lst [])) := s1.trans (same_new hr)
  have hr0 : H r = none := s1.free hr
  obtain ⟨vs, hv, hl, hat⟩ := id hN
  have na : a ≠ r := ne_of_none hv hr0
  refine ⟨_, rfl, a, rfl, ⟨vs, sql (s2 _ _ hv)⟩, for_list (xs := vs) (fun i σ H' => ∃ p y2, σ = [some (.ref a), some (.ref p), y2] ∧ Same H H' ∧ H p = none ∧ H' p = some (.lst ((flatL (Ls.take i)).map V.int)))
    ⟨r, none, rfl, s2, hr0, upd_same⟩ (fun i σ H' _ h => by obtain ⟨p, y2, _, sm, _⟩ := h; exact sql (sm _ _ hv)) (fun i x σ H' hx h => ?_) (fun σ H' h => ?_)⟩
  · obtain ⟨p, y2, rfl, sm, hp, hp'⟩ := h
    have hi : i < Ls.length := by
      rw [← hl]
      exact (List.getElem?_eq_some_iff.mp hx).1
    have hi' := List.getElem?_eq_getElem hi
    have hx' := (hat i x _ hx hi').same sm
    have hmem := List.getElem_mem hi
    have hc := cnt_le hok hmem
    have h1 := LayAt.con_pos (hok _ hmem)
    have et : Ls.take (i + 1) = Ls.take i ++ [Ls[i]] := by
      rw [List.take_add_one, hi']
      rfl
    have hf : flatL (Ls.take (i + 1)) = if Ls[i].cnt > 1 then nestL (flatL (Ls.take i)) Ls[i].waits else flatL (Ls.take i) := by
      rw [et, flatL_snoc]
    have hlen : ((flatL (Ls.take (i + 1))).length : Int) + 1 ≤ 10000 := by
      rw [flatL_len _ _ rfl fun L hL => hok L (List.mem_of_mem_take hL)]
      have := (attOf_part (Ls.take (i + 1)) (Ls.drop (i + 1)) (fun L hL => hok L (List.mem_of_mem_drop hL)) fun L hL => hok L (List.mem_of_mem_take hL)).2
      rw [List.take_append_drop] at this
      omega
    refine ⟨_, rfl, x, Ls[i], rfl, hx', _, _, rfl, rfl, _, rfl, ite2 (fun e => ?_) (fun e => ?_)⟩
    · have e' := of_decide_eq_true e
      rw [if_pos (show Ls[i].cnt > 1 from e')] at hf
      have hnl := nestL_len (flatL (Ls.take i)) Ls[i].waits
      rw [← hf] at hnl
      refine ⟨_, rfl, _, rfl, x, Ls[i], rfl, hx', h1, by omega, fun H2 u s2 hu hu2 => ?_⟩
      refine ⟨p, u, _, _, rfl, s2 _ _ hp', hu2, by rw [List.length_map, List.length_map]; omega, fun H3 t s3 ht ht3 => ?_⟩
      exact ⟨t, _, rfl, (sm.trans s2).trans s3, (sm.trans s2).free ht, by rw [ht3, hf, nestL_map]⟩
    · have e' := of_decide_eq_false (Bool.eq_false_iff.mpr e)
      rw [if_neg (show ¬ Ls[i].cnt > 1 from e')] at hf
      exact ⟨p, _, rfl, sm, hp, by rw [hf]; exact hp'⟩
  · obtain ⟨p, y2, rfl, sm, hp, hp'⟩ := h
    rw [hl, List.take_length] at hp'
    exact ⟨_, rfl, q H' p sm hp hp'⟩

end
end Rn
namespace Rn
open PySem PySem.Spec PyProof.Rows L2
section
variable {P : Program} {w : World} {K : PySem.W.Frag} {mg : Str → Option Value} {base : Heap}
def sp_law_rng (K : PySem.W.Frag) : Sp := fun vs H Q _ => ∃ (a : Addr) (ns : List Int), vs = [.ref a] ∧ SqL K H a (ns.map V.int) ∧ ns.length ≤ 63 ∧ ∀ H' p, Same H H' → H p = none → Rng H' p 0 → Q (.ref p) H'
theorem ok_law_rng (T : Txt K mg) : FnOk P w K mg base CX0 1 T.f_law_rng T.d_law_rng ["script"] (sp_law_rng K) := by
  refine T.F_law_rng.ok sc_law_rng (fun vs H Q E h => ?_) (fun cdv A outer s H vs Q E hr h => ?_)
  · obtain ⟨a, ns, rfl, _⟩ := h
    rfl
  obtain ⟨a, ns, rfl, hS, hl, q⟩ := h
  refine ⟨_, (pss_cons (ps_asg (pe_tup (pa_cons pe_int (pa_cons pe_int pa_nil))) (pg_tup rfl (pgs_cons (pg_name (i := 1) sc_law_rng.nd rfl (Or.inl rfl)) (pgs_cons (pg_name (i := 2) sc_law_rng.nd rfl (Or.inl rfl)) pgs_nil))))
      (pss_cons (ps_for PassesOwn.never rfl (pi_list (pe_slice sl_list (pv 0) po_none (po_some pe_int))) (pg_name (i := 3) sc_law_rng.nd rfl (Or.inl rfl))
      (pss_cons (ps_set (i := 4) sc_law_rng.nd rfl (Or.inl rfl) (pe_callB call_abs (by rfl) T.m_abs (by decide +kernel) (pa_cons (pv 3) pa_nil)))
      (pss_cons (ps_if (pt_cmpR op_ge (pv 4) (pe_op op_pow pe_int pe_int) (nomark _))
      (pss_one (ps_set (i := 1) sc_law_rng.nd rfl (Or.inl rfl) (pe_op op_add (pe_op op_mulW (pv 1) (pe_op op_pow pe_int pe_int)) (pe_op op_mod (pv 4) (pe_op op_pow pe_int pe_int)))))
      pss_nil)
      (pss_one (ps_set (i := 2) sc_law_rng.nd rfl (Or.inl rfl) (pe_op op_mod (pe_op op_add (pe_op op_add (pe_op op_mul (pv 2) pe_int) (pe_op op_mod (pv 3) pe_int)) pe_int) pe_int))))))
      (pss_one (ps_ret (pe_lst (pa_cons (pv 1) (pa_cons (pv 2) (pa_cons pe_int pa_nil)))))))), ?_⟩
  refine ⟨size_le (by show 2 ≤ 100000; decide), fun b hb => ?_⟩
  have sb := same_new (o := .tup [.int 0, .int 88675123]) hb
  refine ⟨b, _, rfl, sqt upd_same, rfl, _, _, rfl, _, _, rfl, rfl, ?_⟩
  generalize upd H b (.tup [.int 0, .int 88675123]) = H0 at *
  refine ⟨_, rfl, 63, rfl, a, _, rfl, sb.seq hS, fun c hc => ?_⟩
  rw [show (63 : Int) = ((63 : Nat) : Int) from rfl, cut_n, List.take_of_length_le (by rw [List.length_map]; omega)]
  have ec := upd_same (H := H0) (a := c) (o := .lst (ns.map V.int))
  have sc := same_new (o := .lst (ns.map V.int)) hc
  generalize upd H0 c (.lst (ns.map V.int)) = H1 at *
  refine ⟨c, rfl, ⟨_, sql ec⟩, for_list (xs := ns.map V.int) (fun i σ H' => ∃ dg seed y3 y4, σ = [some (.ref a), some (.int dg), some (.int seed), y3, y4] ∧ 0 ≤ dg ∧ dg.natAbs < 2 ^ (200 * i + 1) ∧ 0 ≤ seed ∧ seed < 2305843009213693951 ∧ H' = H1)
    ⟨0, 88675123, none, none, rfl, by decide, by decide, by decide, by decide, rfl⟩ (fun i σ H' _ h => by obtain ⟨_, _, _, _, _, _, _, _, _, e⟩ := h; rw [e]; exact sql ec) (fun i x σ H' hx h => ?_) (fun σ H' h => ?_)⟩
  · obtain ⟨dg, seed, y3, y4, rfl, d0, d1, s0, s1, rfl⟩ := h
    have hi : i < 63 := by
      have := (List.getElem?_eq_some_iff.mp hx).1
      rw [List.length_map] at this
      omega
    obtain ⟨n, rfl⟩ : ∃ n, x = .int n := by
      rw [List.getElem?_map] at hx
      cases e : ns[i]? with
      | none => rw [e] at hx; cases hx
      | some n => rw [e] at hx; exact ⟨n, (Option.some.inj hx).symm⟩
    have q1 : (0 : Int) < 2305843009213693921 := by decide
    have q2 : (0 : Int) < 2305843009213693951 := by decide
    have p60 : (0 : Int) < 10 ^ (60 : Int).toNat := by decide
    have n60 : ((10 : Int) ^ (60 : Int).toNat).natAbs < 2 ^ 200 := by decide
    refine ⟨_, rfl, _, rfl, ?_⟩
    generalize (if n < 0 then -n else n) = size
    refine ⟨_, rfl, _, _, rfl, rfl, ⟨by decide, by decide, by decide⟩, _, _, rfl, rfl, _, rfl, ite2 (fun e => ?_) (fun e => ?_)⟩
    · refine ⟨_, rfl, _, _, rfl, rfl, ⟨by decide, by decide, by decide⟩, _, _, rfl, rfl, wide_mul (b := 200) d1 n60 (by omega) (by decide) (by omega), _, rfl, _, _, rfl, rfl, ⟨by decide, by decide, by decide⟩, _, _, rfl, rfl, p60, _, _, rfl, rfl, ?_⟩
      have r0 := Int.emod_nonneg size (show (10 : Int) ^ (60 : Int).toNat ≠ 0 by decide)
      have r1 := Int.emod_lt_of_pos size p60
      have nn : 0 ≤ dg * 10 ^ (60 : Int).toNat + size % 10 ^ (60 : Int).toNat := by
        have := Int.mul_nonneg d0 (Int.le_of_lt p60)
        omega
      have bd : (dg * 10 ^ (60 : Int).toNat + size % 10 ^ (60 : Int).toNat).natAbs < 2 ^ (200 * (i + 1) + 1) := by
        have h1 : dg * 10 ^ (60 : Int).toNat + size % 10 ^ (60 : Int).toNat < (dg + 1) * 10 ^ (60 : Int).toNat := by
          rw [Int.add_mul, Int.one_mul]
          omega
        have h2 : (dg + 1).natAbs ≤ 2 ^ (200 * i + 1) := by omega
        have h3 : ((dg + 1) * 10 ^ (60 : Int).toNat).natAbs ≤ 2 ^ (200 * i + 1) * 2 ^ 200 := by
          rw [Int.natAbs_mul]
          exact Nat.mul_le_mul h2 (Nat.le_of_lt n60)
        rw [← Nat.pow_add, show 200 * i + 1 + 200 = 200 * (i + 1) + 1 by omega] at h3
        omega
      refine ⟨_, rfl, _, _, rfl, rfl, .inr ⟨by decide, by decide⟩, _, rfl, _, _, rfl, rfl, q1, _, _, rfl, rfl, _, _, rfl, rfl, _, _, rfl, rfl, q2, _, _, _, _, rfl, nn, bd, Int.emod_nonneg _ (by decide), Int.emod_lt_of_pos _ (by decide), rfl⟩
    · refine ⟨_, rfl, _, _, rfl, rfl, .inr ⟨by decide, by decide⟩, _, rfl, _, _, rfl, rfl, q1, _, _, rfl, rfl, _, _, rfl, rfl, _, _, rfl, rfl, q2, _, _, _, _, rfl, d0, Nat.lt_of_lt_of_le d1 (Nat.pow_le_pow_right (by decide) (by omega)), Int.emod_nonneg _ (by decide), Int.emod_lt_of_pos _ (by decide), rfl⟩
  · obtain ⟨dg, seed, y3, y4, rfl, d0, d1, s0, s1, rfl⟩ := h
    refine ⟨_, rfl, _, rfl, size_le (by show 3 ≤ 100000; decide), fun p hp => ?_⟩
    exact q _ p ((sb.trans sc).trans (same_new hp)) ((sb.trans sc).free hp) ⟨dg, seed, 0, upd_same, s0, by omega, by decide, by decide⟩

end
end Rn
namespace Rn
open PySem PySem.Spec PyProof.Rows L2
section
variable {P : Program} {w : World} {K : PySem.W.Frag} {mg : Str → Option Value} {base : Heap}
def sp_law_draw (K : PySem.W.Frag) : Sp := fun vs H Q _ => ∃ (a : Addr) (n limit : Int), vs = [.ref a, .int limit] ∧ Rng H a n ∧ n ≤ 1000000000 ∧ 0 < limit ∧ limit < 2 ^ 100 ∧
  ∀ H' r, Rdv a 1 H H' → 0 ≤ r → r < limit → Q (.int r) H'
theorem ok_law_draw (T : Txt K mg) : FnOk P w K mg base CX0 1 T.f_law_draw T.d_law_draw ["rng", "limit"] (sp_law_draw K) := by
  refine T.F_law_draw.ok sc_law_draw (fun vs H Q E h => ?_) (fun cdv A outer s H vs Q E hr h => ?_)
  · obtain ⟨a, n, limit, rfl, _⟩ := h
    rfl
  obtain ⟨a, n, limit, rfl, hS, hn, hm0, hm1, q⟩ := h
  refine ⟨_, (pss_cons (ps_if (pt_cmpR op_gt (pe_ix ix_list (pv 0) pe_int (fun _ _ => rfl)) pe_int (nomark _))
      (pss_cons (ps_set (i := 2) sc_law_draw.nd rfl (Or.inl rfl) (pe_op op_mod (pe_ix ix_list (pv 0) pe_int (fun _ _ => rfl)) (pv 1)))
      (pss_cons (ps_asg (pe_op op_fdivW (pe_ix ix_list (pv 0) pe_int (fun _ _ => rfl)) (pv 1)) (pg_sub (pv 0) pe_int set_list))
      (pss_one (ps_ret (pv 2)))))
      pss_nil)
      (pss_cons (ps_asg (pe_op op_add (pe_ix ix_list (pv 0) pe_int (fun _ _ => rfl)) pe_int) (pg_sub (pv 0) pe_int set_list))
      (pss_cons (ps_set (i := 3) sc_law_draw.nd rfl (Or.inl rfl) (pe_op op_mod (pe_op op_pow (pe_op op_add (pe_ix ix_list (pv 0) pe_int (fun _ _ => rfl)) (pe_op op_mul pe_int (pe_ix ix_list (pv 0) pe_int (fun _ _ => rfl)))) pe_int) pe_int))
      (pss_cons (ps_set (i := 3) sc_law_draw.nd rfl (Or.inl rfl) (pe_op op_mod (pe_op op_powW (pe_op op_add (pv 3) (pe_op op_mul pe_int (pe_ix ix_list (pv 0) pe_int (fun _ _ => rfl)))) pe_int) pe_int))
      (pss_one (ps_ret (pe_op op_mod (pe_op op_fdivW (pv 3) pe_int) (pv 1)))))))), ?_⟩
  obtain ⟨dg, seed, cnt, ha, s0, s1, c0, c1⟩ := hS
  have p1 : (0 : Int) < 162259276829213363391578010288127 := by decide
  have p2 : (0 : Int) < 170141183460469231731687303715884105727 := by decide
  -- if rng[0] > 0
  refine ⟨_, rfl, a, _, 0, _, rfl, rfl, sql ha, rfl, _, _, rfl, rfl, _, rfl, ite2 (fun e => ?_) (fun e => ?_)⟩
  · refine ⟨_, rfl, a, _, 0, _, rfl, rfl, sql ha, rfl, _, rfl, _, _, rfl, rfl, hm0, ?_⟩
    refine ⟨_, rfl, a, _, 0, _, rfl, rfl, sql ha, rfl, _, rfl, _, _, rfl, rfl, wide_div (b := 100) hm0 (by omega) (by decide) (by decide), _, rfl, a, _, 0, 0, rfl, rfl, ha, rfl, ?_⟩
    refine ⟨_, rfl, q _ _ (Rdv.made (dg' := dg / limit) (cnt' := cnt) ?_ ha upd_same (by omega) (by omega)) (Int.emod_nonneg _ (by omega)) (Int.emod_lt_of_pos _ hm0)⟩
    rw [hid_src1]
    exact Same.refl _
  · refine ⟨_, rfl, a, _, 2, _, rfl, rfl, sql ha, rfl, _, _, rfl, rfl, _, rfl, a, _, 2, 2, rfl, rfl, ha, rfl, ?_⟩
    have ha2 : (upd H a (.lst [.int dg, .int seed, .int (cnt + 1)])) a = some (.lst [.int dg, .int seed, .int (cnt + 1)]) := upd_same
    have sm2 : Same (hid a a H) (hid a a (upd H a (.lst [.int dg, .int seed, .int (cnt + 1)]))) := by rw [hid_src1]; exact Same.refl _
    show tSeq _ _ _ _ (upd H a (.lst [.int dg, .int seed, .int (cnt + 1)]))
    generalize upd H a (.lst [.int dg, .int seed, .int (cnt + 1)]) = H2 at *
    refine ⟨_, rfl, a, _, 1, _, rfl, rfl, sql ha2, rfl, _, rfl, a, _, 2, _, rfl, rfl, sql ha2, rfl, _, _, rfl, rfl, .inl ⟨by decide, by decide⟩, _, _, rfl, rfl, _, _, rfl, rfl, ⟨by decide, by decide, by omega⟩, _, _, rfl, rfl, p1, ?_⟩
    generalize (seed + 998244353 * (cnt + 1)) ^ (3 : Int).toNat = big
    have b0 := Int.emod_nonneg big (show (162259276829213363391578010288127 : Int) ≠ 0 by decide)
    have b1 := Int.emod_lt_of_pos big p1
    generalize big % 162259276829213363391578010288127 = mx at *
    refine ⟨_, rfl, _, rfl, a, _, 2, _, rfl, rfl, sql ha2, rfl, _, _, rfl, rfl, .inl ⟨by decide, by decide⟩, _, _, rfl, rfl, _, _, rfl, rfl, pow_ok (k := 120) (by omega) (by decide) (by decide), _, _, rfl, rfl, p2, ?_⟩
    refine ⟨_, rfl, _, _, rfl, rfl, wide_div (b := 21) (by decide) (by decide) (by decide) (by decide), _, rfl, _, _, rfl, rfl, hm0, ?_⟩
    exact q H2 _ (Rdv.made sm2 ha ha2 (by omega) (by omega)) (Int.emod_nonneg _ (by omega)) (Int.emod_lt_of_pos _ hm0)

end
end Rn
namespace Rn
open PySem PySem.Spec PyProof.Rows L2
section
variable {P : Program} {w : World} {K : PySem.W.Frag} {mg : Str → Option Value} {base : Heap}
def sp_law_flat (K : PySem.W.Frag) : Sp := fun vs H Q _ => ∃ (a : Addr) (Ls : List Lay), vs = [.ref a] ∧ NestAt H a Ls ∧ (∀ L ∈ Ls, L.ok = true) ∧ Ls.length ≤ 5000 ∧ attOf Ls ≤ 20000 ∧
  ∀ H' r, Same H H' → H r = none → H' r = some (.lst ((flatL Ls).map V.int)) → Q (.ref r) H'
theorem ok_law_flat (T : Txt K mg) : FnOk P w K mg base CX0 1 T.f_law_flat T.d_law_flat ["layers"] (sp_law_flat K) := by
  refine T.F_law_flat.ok sc_law_flat (fun vs H Q E h => ?_) (fun cdv A outer s H vs Q E hr h => ?_)
  · obtain ⟨a, Ls, rfl, _⟩ := h
    rfl
  obtain ⟨a, Ls, rfl, hN, hok, hz, hsz, k⟩ := h
  refine ⟨_, (pss_cons (ps_set (i := 1) sc_law_flat.nd rfl (Or.inl rfl) pe_int)
      (pss_cons (ps_for PassesOwn.never rfl (pi_list (pv 0)) (pg_name (i := 2) sc_law_flat.nd rfl (Or.inl rfl))
      (pss_one (ps_set (i := 1) sc_law_flat.nd rfl (Or.inl rfl) (pe_op op_mulW (pv 1) (pe_ifExp (pt_val (pe_callB call_isi (by rfl) T.m_isinstance (by decide +kernel) (pa_cons (pv 2) (pa_cons (pe_bltn (v := .ty "tuple") (by rfl) T.m_tuple (by decide +kernel) rfl) pa_nil)))) (pe_ix ix_tup (pv 2) pe_int (fun _ _ => rfl)) (pe_op op_add (pe_callB call_len_seq (by rfl) T.m_len PySem.boot_len (pa_cons (pv 2) pa_nil)) pe_int))))))
      (pss_cons (ps_set (i := 3) sc_law_flat.nd rfl (Or.inl rfl) (pe_lst pa_nil))
      (pss_cons (ps_for PassesOwn.never rfl (pi_range2 (by rfl) T.m_range (pa_cons pe_int (pa_cons (pv 1) pa_nil))) (pg_name (i := 4) sc_law_flat.nd rfl (Or.inl rfl))
      (pss_one (ps_for PassesOwn.never rfl (pi_list (pv 0)) (pg_name (i := 2) sc_law_flat.nd rfl (Or.inl rfl))
      (pss_cons (ps_set (i := 5) sc_law_flat.nd rfl (Or.inl rfl) (pe_ifExp (pt_val (pe_callB call_isi (by rfl) T.m_isinstance (by decide +kernel) (pa_cons (pv 2) (pa_cons (pe_bltn (v := .ty "tuple") (by rfl) T.m_tuple (by decide +kernel) rfl) pa_nil)))) (pe_ix ix_tup (pv 2) pe_int (fun _ _ => rfl)) (pe_op op_add (pe_callB call_len_seq (by rfl) T.m_len PySem.boot_len (pa_cons (pv 2) pa_nil)) pe_int)))
      (pss_cons (ps_if (pt_cmpR op_ne (pe_op op_mod (pv 4) (pv 5)) pe_int (nomark _))
      (pss_cons (ps_expr (pe_bm PySem.F.plainAttrs_list PySem.F.slot_list_append PySem.F.type_list_append mt_append (pv 3) (pa_cons (pe_ifExp (pt_val (pe_callB call_isi (by rfl) T.m_isinstance (by decide +kernel) (pa_cons (pv 2) (pa_cons (pe_bltn (v := .ty "tuple") (by rfl) T.m_tuple (by decide +kernel) rfl) pa_nil)))) (pe_ix ix_tup (pv 2) pe_int (fun _ _ => rfl)) (pe_ix ix_list (pv 2) (pe_op op_sub (pe_op op_mod (pv 4) (pv 5)) pe_int) (fun _ _ => rfl))) pa_nil)))
      (pss_one ps_break))
      pss_nil)
      (pss_one (ps_set (i := 4) sc_law_flat.nd rfl (Or.inl rfl) (pe_op op_fdivW (pv 4) (pv 5)))))))))
      (pss_one (ps_ret (pv 3))))))), ?_⟩
  have big : ∀ L ∈ Ls, L.ok = true ∧ L.cnt < 2 ^ 100 := fun L hL => ⟨hok L hL, by have := cnt_le hok hL; omega⟩
  have fl := flatL_len _ Ls rfl hok
  obtain ⟨vs, hv, hl, hat⟩ := id hN
  -- size
  refine ⟨_, rfl, a, rfl, ⟨vs, sql hv⟩, for_list (xs := vs) (fun i σ H' => (∃ y2, σ = [some (.ref a), some (.int (attOf (Ls.take i))), y2, none, none, none]) ∧ H' = H) ⟨⟨none, rfl⟩, rfl⟩ (fun i σ H' _ h => by rw [h.2]; exact sql hv) (fun i x σ H' hx h => ?_) (fun σ H' h => ?_)⟩
  · obtain ⟨⟨y2, rfl⟩, rfl⟩ := h
    have hi : i < Ls.length := by
      rw [← hl]
      exact (List.getElem?_eq_some_iff.mp hx).1
    have hi' := List.getElem?_eq_getElem hi
    obtain ⟨i1, i2⟩ := attOf_lt i (Ls.take i) (by rw [List.length_take]; omega) fun L hL => big L (List.mem_of_mem_take hL)
    obtain ⟨h1, h2⟩ := big _ (List.getElem_mem hi)
    have h3 := LayAt.con_pos h1
    have hLx := hat i x _ hx hi'
    generalize Ls[i] = L at *
    have et : attOf (Ls.take (i + 1)) = attOf (Ls.take i) * L.cnt := by rw [List.take_add_one, hi', Option.toList_some, attOf_snoc]
    have wm : CMulW (attOf (Ls.take i)) L.cnt := wide_mul (b := 100) i2 (by omega) (by omega) (by decide) (by omega)
    cases L with
    | con wt n =>
      obtain ⟨p, rfl, hp⟩ := hLx
      refine ⟨_, rfl, _, rfl, _, _, _, _, true, rfl, .ty "tuple", .base (.tup hp), kit_ty (by decide +kernel), true, rfl, iteT ?_⟩
      refine ⟨_, rfl, p, _, 1, _, rfl, rfl, sqt hp, rfl, _, _, rfl, rfl, wm, ⟨some (.ref p), ?_⟩, rfl⟩
      rw [et]
      rfl
    | pol ns =>
      obtain ⟨p, rfl, hp⟩ := hLx
      refine ⟨_, rfl, _, rfl, _, _, _, _, false, rfl, .ty "tuple", .base (.lst hp), kit_ty (by decide +kernel), false, rfl, iteF ?_⟩
      refine ⟨_, rfl, p, _, rfl, .inl (sql hp), _, _, rfl, rfl, _, _, rfl, rfl, by rw [List.length_map]; exact wm, ⟨some (.ref p), ?_⟩, rfl⟩
      rw [et, List.length_map]
      rfl
  · obtain ⟨⟨y2, rfl⟩, rfl⟩ := h
    rw [hl, List.take_length]
    -- found = []; for place in range(1, size)
    refine ⟨Nat.zero_le _, fun r hr' => ?_⟩
    refine ⟨_, rfl, _, _, rfl, ⟨by decide, by decide, by omega, by omega⟩, ?_⟩
    refine for_range (lo := 1) (n := _) (fun i σ H2 => (∃ y2 y4 y5, σ = [some (.ref a), some (.int (attOf Ls)), y2, some (.ref r), y4, y5]) ∧ Same H' H2 ∧ H2 r = some (.lst (((flatL Ls).take i).map V.int)))
      ⟨⟨_, _, _, rfl⟩, same_new hr', by rw [upd_same]; rfl⟩ (fun i σ H2 hi h => ?_) (fun σ H2 h => ?_)
    · obtain ⟨⟨y2, y4, y5, rfl⟩, sm, hrr⟩ := h
      have hi2 : i < (flatL Ls).length := by omega
      have gi := List.getElem?_eq_getElem hi2
      have tk : (flatL Ls).take (i + 1) = (flatL Ls).take i ++ [(flatL Ls)[i]] := by rw [List.take_add_one, gi]; rfl
      have sml : (((flatL Ls).take i).map V.int).length < sizeLine := size_lt (by rw [List.length_map, List.length_take]; omega)
      generalize (flatL Ls)[i] = x at *
      have new : upd H2 r (.lst (((flatL Ls).take i).map V.int ++ [.int x])) r = some (.lst (((flatL Ls).take (i + 1)).map V.int)) := by rw [upd_same, tk, List.map_append]; rfl
      -- for layer in layers
      refine ⟨_, rfl, a, rfl, ⟨vs, sql (sm _ _ hv)⟩, for_list (xs := vs) (fun j σ H3 => (∃ (m : Nat) (y2 y5 : Option V), σ = [some (.ref a), some (.int (attOf Ls)), y2, some (.ref r), some (.int ((m : Int) + 1)), y5] ∧ (flatL (Ls.drop j))[m]? = some x) ∧ H3 = H2)
        ⟨⟨i, y2, y5, by rw [Int.add_comm (i : Int) 1]; rfl, gi⟩, rfl⟩ (fun j σ H3 _ h => by rw [h.2]; exact sql (sm _ _ hv)) (fun j y σ H3 hx h => ?_) (fun σ H3 h => ?_)⟩
      · obtain ⟨⟨m, y2, y5, rfl, hm⟩, rfl⟩ := h
        have hj : j < Ls.length := by
          rw [← hl]
          exact (List.getElem?_eq_some_iff.mp hx).1
        have hj' := List.getElem?_eq_getElem hj
        obtain ⟨h1, h2⟩ := big _ (List.getElem_mem hj)
        have h3 := LayAt.con_pos h1
        have hLx := (hat j y _ hx hj').same sm
        have hd : Ls.drop j = Ls[j] :: Ls.drop (j + 1) := List.drop_eq_getElem_cons hj
        have hok' : ∀ M ∈ Ls[j] :: Ls.drop (j + 1), M.ok = true := by
          rw [← hd]
          exact fun M hM => hok M (List.mem_of_mem_drop hM)
        rw [hd, flatL_cons hok'] at hm
        have hmlt := (List.getElem?_eq_some_iff.mp hm).1
        rw [nestL_get _ _ _ hmlt] at hm
        have hw := waits_len h1
        generalize Ls[j] = L at *
        have pos : (0 : Int) < L.cnt := by omega
        have em : ((m : Int) + 1) % L.cnt = (((m + 1) % (L.waits.length + 1) : Nat) : Int) := by
          rw [← hw, Int.natCast_emod]
          push_cast
          rfl
        have ed : ((m : Int) + 1) / L.cnt = (((m + 1) / (L.waits.length + 1) : Nat) : Int) := by
          rw [← hw, Int.natCast_ediv]
          push_cast
          rfl
        have lc : L.cnt.natAbs < 2 ^ 100 := by
          have := h2
          clear em ed hm hmlt hw
          omega
        have one : (m + 1) % (L.waits.length + 1) = 0 → 1 ≤ (m + 1) / (L.waits.length + 1) := fun z0 => by
          have := Nat.div_add_mod (m + 1) (L.waits.length + 1)
          rcases Nat.eq_zero_or_pos ((m + 1) / (L.waits.length + 1)) with z | z
          · rw [z] at this
            omega
          · exact z
        cases L with
        | con wt n =>
          obtain ⟨p, rfl, hp⟩ := hLx
          have hc : (Lay.con wt n).cnt = n := rfl
          rw [hc] at em ed pos lc
          refine ⟨_, rfl, _, _, _, _, true, rfl, .ty "tuple", .base (.tup hp), kit_ty (by decide +kernel), true, rfl, iteT ?_⟩
          refine ⟨_, rfl, p, _, 1, _, rfl, rfl, sqt hp, rfl, ?_⟩
          by_cases z : (m + 1) % ((Lay.con wt n).waits.length + 1) = 0
          · have hb : (!decide (V.int (((m : Int) + 1) % n) = V.int 0)) = false := by
              rw [em, z]
              rfl
            refine ⟨_, rfl, _, rfl, _, _, rfl, rfl, pos, rfl, false, congrArg V.bl hb, ?_⟩
            rw [if_pos z] at hm
            have o1 := one z
            refine iteF ⟨_, rfl, _, rfl, _, _, rfl, rfl, wide_div (b := 100) pos lc (by decide) (by decide), ⟨(m + 1) / ((Lay.con wt n).waits.length + 1) - 1, some (.ref p), some (.int n), ?_, hm⟩, rfl⟩
            show [some (V.ref a), some (.int (attOf Ls)), some (.ref p), some (.ref r), some (V.int (((m : Int) + 1) / n)), some (V.int n)] = _
            rw [ed]
            have : ((((m + 1) / ((Lay.con wt n).waits.length + 1) : Nat) : Int)) = (((m + 1) / ((Lay.con wt n).waits.length + 1) - 1 : Nat) : Int) + 1 := by omega
            rw [this]
          · rw [if_neg z] at hm
            have hb : (!decide (V.int (((m : Int) + 1) % n) = V.int 0)) = true := by
              rw [em, decide_eq_false fun q => z (by have := V.int.inj q; omega)]
              rfl
            refine ⟨_, rfl, _, rfl, _, _, rfl, rfl, pos, rfl, true, congrArg V.bl hb, ?_⟩
            refine iteT ⟨_, rfl, .inl ⟨rfl, _, sql hrr⟩, ?_⟩
            refine ⟨_, rfl, _, _, _, _, true, rfl, .ty "tuple", .base (.tup hp), kit_ty (by decide +kernel), true, rfl, iteT ?_⟩
            have hx : x = wt := (List.mem_replicate.mp (List.mem_of_getElem? hm)).2
            refine ⟨_, rfl, p, _, 0, .int x, rfl, rfl, sqt hp, by rw [hx]; rfl, r, _, _, rfl, rfl, hrr, sml, ⟨⟨_, _, _, rfl⟩, same_keep sm hr', new⟩⟩
        | pol ns =>
          obtain ⟨p, rfl, hp⟩ := hLx
          have hc : (Lay.pol ns).cnt = (ns.length : Int) + 1 := rfl
          have hwl : (Lay.pol ns).waits = ns := rfl
          have ln : ((ns.map V.int).length : Int) + 1 = (ns.length : Int) + 1 := by rw [List.length_map]
          rw [hc, ← ln] at em ed pos lc
          rw [hwl] at em ed hm one
          refine ⟨_, rfl, _, _, _, _, false, rfl, .ty "tuple", .base (.lst hp), kit_ty (by decide +kernel), false, rfl, iteF ?_⟩
          refine ⟨_, rfl, p, _, rfl, .inl (sql hp), _, _, rfl, rfl, ?_⟩
          by_cases z : (m + 1) % (ns.length + 1) = 0
          · have hb : (!decide (V.int (((m : Int) + 1) % (((ns.map V.int).length : Int) + 1)) = V.int 0)) = false := by
              rw [em, z]
              rfl
            refine ⟨_, rfl, _, rfl, _, _, rfl, rfl, pos, rfl, false, congrArg V.bl hb, ?_⟩
            rw [if_pos z] at hm
            have o1 := one z
            refine iteF ⟨_, rfl, _, rfl, _, _, rfl, rfl, wide_div (b := 100) pos lc (by decide) (by decide), ⟨(m + 1) / (ns.length + 1) - 1, some (.ref p), some (.int (((ns.map V.int).length : Int) + 1)), ?_, hm⟩, rfl⟩
            show [some (V.ref a), some (.int (attOf Ls)), some (.ref p), some (.ref r), some (V.int (((m : Int) + 1) / (((ns.map V.int).length : Int) + 1))), some (V.int (((ns.map V.int).length : Int) + 1))] = _
            rw [ed]
            have : ((((m + 1) / (ns.length + 1) : Nat) : Int)) = (((m + 1) / (ns.length + 1) - 1 : Nat) : Int) + 1 := by omega
            rw [this]
          · rw [if_neg z] at hm
            have hb : (!decide (V.int (((m : Int) + 1) % (((ns.map V.int).length : Int) + 1)) = V.int 0)) = true := by
              rw [em, decide_eq_false fun q => z (by have := V.int.inj q; omega)]
              rfl
            refine ⟨_, rfl, _, rfl, _, _, rfl, rfl, pos, rfl, true, congrArg V.bl hb, ?_⟩
            refine iteT ⟨_, rfl, .inl ⟨rfl, _, sql hrr⟩, ?_⟩
            refine ⟨_, rfl, _, _, _, _, false, rfl, .ty "tuple", .base (.lst hp), kit_ty (by decide +kernel), false, rfl, iteF ?_⟩
            have hat2 : atI (ns.map V.int) (((m : Int) + 1) % (((ns.map V.int).length : Int) + 1) - 1) = some (.int x) := by
              rw [em]
              have : (((m + 1) % (ns.length + 1) : Nat) : Int) - 1 = (((m + 1) % (ns.length + 1) - 1 : Nat) : Int) := by omega
              rw [this]
              exact atI_nat (map_get hm)
            refine ⟨_, rfl, _, rfl, _, rfl, _, _, rfl, rfl, pos, _, _, rfl, rfl, p, _, _, .int x, rfl, rfl, sql hp, hat2, r, _, _, rfl, rfl, hrr, sml, ⟨⟨_, _, _, rfl⟩, same_keep sm hr', new⟩⟩
      · obtain ⟨⟨m, y2, y5, rfl, hm⟩, rfl⟩ := h
        rw [hl, List.drop_length] at hm
        cases hm
    · obtain ⟨⟨y2, y4, y5, rfl⟩, sm, hrr⟩ := h
      refine ⟨_, rfl, k H2 r sm hr' ?_⟩
      rw [hrr, List.take_of_length_le (by omega)]

end
end Rn
namespace Rn
open PySem PySem.Spec PyProof.Rows L2
section
variable {P : Program} {w : World} {K : PySem.W.Frag} {mg : Str → Option Value} {base : Heap}
def fixedL : List (List Int) := [[1, 2], [0, 0, 1], [3, 3, 3, 4], [2, 1, 1, 1, 1], [1000000000000 - 1, 0]]
theorem uns_prime {ws : List Int} (h0 : 0 < ws.length) (hp : ∀ j : Nat, 2 ≤ j → j < ws.length + 1 → ¬ j ∣ ws.length + 1) : Uns ws := ⟨h0, fun j h2 hl => by
  unfold innB
  have e : decide (((ws.length : Int) + 1) % (j : Int) = 0) = false := decide_eq_false fun z => hp j h2 hl (by
    rw [show ((ws.length : Int) + 1) = ((ws.length + 1 : Nat) : Int) by omega, ← Int.dvd_iff_emod_eq_zero, Int.natCast_dvd_natCast] at z
    exact z)
  rw [e, Bool.and_false, Bool.false_and]⟩
/-- an unsplittable list of the law -/
def Sng (ws : List Int) : Prop := Uns ws ∧ ¬ Flat1 ws ∧ ws.length ≤ 60 ∧ 2 ≤ ws.length ∧ ∀ x ∈ ws, 0 ≤ x ∧ x < 1000000000000
theorem not_flat {ws : List Int} {i j : Nat} {x y : Int} (hi : ws[i]? = some x) (hj : ws[j]? = some y) (ne : x ≠ y) : ¬ Flat1 ws := fun ⟨w, h⟩ => by
  have a := List.eq_of_mem_replicate (h ▸ List.mem_of_getElem? hi)
  have b := List.eq_of_mem_replicate (h ▸ List.mem_of_getElem? hj)
  exact ne (a.trans b.symm)
theorem fixed_ok : ∀ z ∈ fixedL, Sng z := fun z hz => by
  simp only [fixedL, List.mem_cons, List.not_mem_nil, or_false] at hz
  rcases hz with rfl | rfl | rfl | rfl | rfl
  · exact ⟨uns_iff.mp (by decide +kernel), not_flat (i := 0) (j := 1) rfl rfl (by decide), by decide, by decide, by decide⟩
  · exact ⟨uns_iff.mp (by decide +kernel), not_flat (i := 0) (j := 2) rfl rfl (by decide), by decide, by decide, by decide⟩
  · exact ⟨uns_iff.mp (by decide +kernel), not_flat (i := 0) (j := 3) rfl rfl (by decide), by decide, by decide, by decide⟩
  · exact ⟨uns_iff.mp (by decide +kernel), not_flat (i := 0) (j := 1) rfl rfl (by decide), by decide, by decide, by decide⟩
  · exact ⟨uns_iff.mp (by decide +kernel), not_flat (i := 0) (j := 1) rfl rfl (by decide), by decide, by decide, by decide⟩
def sp_law_single (K : PySem.W.Frag) : Sp := fun vs H Q _ => ∃ (a : Addr) (n : Int), vs = [.ref a] ∧ Rng H a n ∧ n ≤ 10000000 ∧ ∀ H' p ws, Rdv a 200 H H' → H p = none → hid a a H' p = some (.lst ((ws : List Int).map V.int)) → Sng ws → Q (.ref p) H'
theorem ok_law_single (T : Txt K mg) : FnOk P w K mg base CX0 2 T.f_law_single T.d_law_single ["rng"] (sp_law_single K) := by
  have G_law_draw := (ok_law_draw (P := P) (w := w) (base := base) T)
  refine T.F_law_single.ok sc_law_single (fun vs H Q E h => ?_) (fun cdv A outer s H vs Q E hr h => ?_)
  · obtain ⟨a, n, rfl, _⟩ := h
    rfl
  obtain ⟨a, n, rfl, hS, hn, q⟩ := h
  refine ⟨_, (pss_cons (ps_if (pt_cmpR op_eq (pe_call G_law_draw hr (by rfl) T.g_law_draw T.F_law_draw.kp T.b_law_draw .nil pass0 (pa_cons (pv 0) (pa_cons pe_int pa_nil))) pe_int (nomark _))
      (pss_one (ps_ret (pe_ix ix_list (pe_lst (pa_cons (pe_lst (pa_cons pe_int (pa_cons pe_int pa_nil))) (pa_cons (pe_lst (pa_cons pe_int (pa_cons pe_int (pa_cons pe_int pa_nil)))) (pa_cons (pe_lst (pa_cons pe_int (pa_cons pe_int (pa_cons pe_int (pa_cons pe_int pa_nil))))) (pa_cons (pe_lst (pa_cons pe_int (pa_cons pe_int (pa_cons pe_int (pa_cons pe_int (pa_cons pe_int pa_nil)))))) (pa_cons (pe_lst (pa_cons (pe_op op_sub (pe_op op_pow pe_int pe_int) pe_int) (pa_cons pe_int pa_nil))) pa_nil)))))) (pe_call G_law_draw hr (by rfl) T.g_law_draw T.F_law_draw.kp T.b_law_draw .nil pass0 (pa_cons (pv 0) (pa_cons pe_int pa_nil))) (fun _ _ => rfl))))
      pss_nil)
      (pss_cons (ps_setLc (i := 1) (own := [("turn", 2)]) (g := gName 2) (tt := tYes) rfl sc_law_single.nd rfl rfl (sw_true rfl rfl rfl (by decide +kernel)) (pi_range1 (by rfl) T.m_range (pa_cons (pe_ix ix_list (pe_lst (pa_cons pe_int (pa_cons pe_int (pa_cons pe_int (pa_cons pe_int (pa_cons pe_int pa_nil)))))) (pe_call G_law_draw hr (by rfl) T.g_law_draw T.F_law_draw.kp T.b_law_draw .nil pass0 (pa_cons (pv 0) (pa_cons pe_int pa_nil))) (fun _ _ => rfl)) pa_nil)) (blkOk_by (N := ["rng", "found", "turn"]) (sc := defScope s_law_single) (by decide +kernel)) (fun _ _ _ _ _ => (pg_name (i := 2) sc_law_single.nd rfl (Or.inl rfl))) (fun _ _ _ _ _ => pts_nil) (fun _ _ _ _ _ => (pe_call G_law_draw hr (by rfl) T.g_law_draw T.F_law_draw.kp T.b_law_draw .nil pass0 (pa_cons (pv 0) (pa_cons (pe_ix (ix_listK (K := K) rfl) (pe_lst (pa_cons pe_int (pa_cons (pe_op op_pow pe_int pe_int) pa_nil))) (pe_call G_law_draw hr (by rfl) T.g_law_draw T.F_law_draw.kp T.b_law_draw .nil pass0 (pa_cons (pv 0) (pa_cons pe_int pa_nil))) (fun _ _ => rfl)) pa_nil)))))
      (pss_cons (ps_asg pe_int (pg_sub (pv 1) (pe_call G_law_draw hr (by rfl) T.g_law_draw T.F_law_draw.kp T.b_law_draw .nil pass0 (pa_cons (pv 0) (pa_cons (pe_op op_sub (pe_callB call_len_seq (by rfl) T.m_len PySem.boot_len (pa_cons (pv 1) pa_nil)) pe_int) pa_nil))) set_list))
      (pss_cons (ps_asg pe_int (pg_sub (pv 1) (pe_un un_neg pe_int) set_list))
      (pss_one (ps_ret (pv 1))))))), ?_⟩
  refine ⟨_, rfl, a, _, 2, rfl, hS, by omega, by decide, by decide, fun H1 ra A1 _ _ => ⟨rfl, _, rfl, ite2 (fun _ => ?_) (fun _ => ?_)⟩⟩
  · have S1 := A1.src _ hS
    refine ⟨size_le (by show 2 ≤ 100000; decide), fun t1 h1 => ?_⟩
    have q1 := upd_same (H := H1) (a := t1) (o := .lst [.int 1, .int 2])
    have z1 := same_new (o := .lst [.int 1, .int 2]) h1
    generalize upd H1 t1 (.lst [.int 1, .int 2]) = G1 at *
    refine ⟨size_le (by show 3 ≤ 100000; decide), fun t2 h2 => ?_⟩
    have q2 := upd_same (H := G1) (a := t2) (o := .lst [.int 0, .int 0, .int 1])
    have z2 := same_new (o := .lst [.int 0, .int 0, .int 1]) h2
    generalize upd G1 t2 (.lst [.int 0, .int 0, .int 1]) = G2 at *
    refine ⟨size_le (by show 4 ≤ 100000; decide), fun t3 h3 => ?_⟩
    have q3 := upd_same (H := G2) (a := t3) (o := .lst [.int 3, .int 3, .int 3, .int 4])
    have z3 := same_new (o := .lst [.int 3, .int 3, .int 3, .int 4]) h3
    generalize upd G2 t3 (.lst [.int 3, .int 3, .int 3, .int 4]) = G3 at *
    refine ⟨size_le (by show 5 ≤ 100000; decide), fun t4 h4 => ?_⟩
    have q4 := upd_same (H := G3) (a := t4) (o := .lst [.int 2, .int 1, .int 1, .int 1, .int 1])
    have z4 := same_new (o := .lst [.int 2, .int 1, .int 1, .int 1, .int 1]) h4
    generalize upd G3 t4 (.lst [.int 2, .int 1, .int 1, .int 1, .int 1]) = G4 at *
    refine ⟨_, _, rfl, rfl, ⟨by decide, by decide, by decide⟩, _, _, rfl, rfl, size_le (by show 2 ≤ 100000; decide), fun t5 h5 => ?_⟩
    rw [show (10 : Int) ^ (12 : Int).toNat = 1000000000000 by decide]
    have q5 := upd_same (H := G4) (a := t5) (o := .lst [.int (1000000000000 - 1), .int 0])
    have z5 := same_new (o := .lst [.int (1000000000000 - 1), .int 0]) h5
    generalize upd G4 t5 (.lst [.int (1000000000000 - 1), .int 0]) = G5 at *
    refine ⟨size_le (by show 5 ≤ 100000; decide), fun o ho => ?_⟩
    have eo := upd_same (H := G5) (a := o) (o := .lst [.ref t1, .ref t2, .ref t3, .ref t4, .ref t5])
    have so := same_new (o := .lst [.ref t1, .ref t2, .ref t3, .ref t4, .ref t5]) ho
    generalize upd G5 o (.lst [.ref t1, .ref t2, .ref t3, .ref t4, .ref t5]) = H2 at *
    have y5 := so
    have y4 := z5.trans y5
    have y3 := z4.trans y4
    have y2 := z3.trans y3
    have y1 := z2.trans y2
    have s12 : Same H1 H2 := z1.trans y1
    have LS : ListsAt H2 [t1, t2, t3, t4, t5] fixedL := .cons (y1 _ _ q1) (.cons (y2 _ _ q2) (.cons (y3 _ _ q3) (.cons (y4 _ _ q4) (.cons (y5 _ _ q5) .nil))))
    have nta : ∀ x ∈ ([t1, t2, t3, t4, t5] : List Addr), H1 x = none := fun x hx => by
      simp only [List.mem_cons, List.not_mem_nil, or_false] at hx
      rcases hx with rfl | rfl | rfl | rfl | rfl
      · exact h1
      · exact z1.free h2
      · exact (z1.trans z2).free h3
      · exact ((z1.trans z2).trans z3).free h4
      · exact (((z1.trans z2).trans z3).trans z4).free h5
    have oa := S1.new1 (((((z1.trans z2).trans z3).trans z4).trans z5).free ho)
    have eo : H2 o = some (.lst (([t1, t2, t3, t4, t5] : List Addr).map V.ref)) := eo
    clear q1 z1 y1 h1 q2 z2 y2 h2 q3 z3 y3 h3 q4 z4 y4 h4 q5 z5 y5 h5 ho so
    have lts : ([t1, t2, t3, t4, t5] : List Addr).length = 5 := rfl
    generalize ([t1, t2, t3, t4, t5] : List Addr) = ts at *
    have S2 := S1.same s12
    refine ⟨_, rfl, a, _, 5, rfl, S2, by omega, by decide, by decide, fun H3 r3 A3 l3 u3 => ?_⟩
    obtain ⟨v, hv, hv1, hv2⟩ := at_val (xs := ts.map V.ref) l3 (by rw [List.length_map, lts]; exact u3)
    rw [List.getElem?_map] at hv1
    obtain ⟨tz, htz, rfl⟩ := Option.map_eq_some_iff.mp hv1
    obtain ⟨z, hz1, hz2⟩ := LS.get htz
    have tn := nta tz (List.mem_of_getElem? htz)
    have ta := S1.new1 tn
    refine ⟨o, _, r3, _, rfl, rfl, sql (hid_get (A3.same _ _ (hid_at eo oa oa))).1, hv2, ?_⟩
    exact q H3 tz z ((A1.trans ((Rdv.of s12).trans A3 (Int.le_refl _)) (Int.le_refl _)).mono (by omega)) (A1.free hS tn) (A3.same _ _ (hid_at hz2 ta ta)) (fixed_ok z (List.mem_of_getElem? hz1))
  · have S1 := A1.src _ hS
    refine ⟨size_le (by show 5 ≤ 100000; decide), fun o ho => ?_⟩
    have no := S1.new1 ho
    have A2 : Rdv a 0 H1 (upd H1 o (.lst [.int 4, .int 12, .int 28, .int 58, .int 60])) := Rdv.of (same_new ho)
    have e2 : hid a a (upd H1 o (.lst [.int 4, .int 12, .int 28, .int 58, .int 60])) o = some (.lst (([4, 12, 28, 58, 60] : List Int).map V.int)) := by
      rw [hid_oth no no, upd_same]
      rfl
    generalize upd H1 o (.lst [.int 4, .int 12, .int 28, .int 58, .int 60]) = H2 at *
    have S2 := A2.src _ S1
    refine ⟨_, rfl, a, _, 5, rfl, S2, by omega, by decide, by decide, fun H3 r3 A3 l3 u3 => ?_⟩
    obtain ⟨mi, hmi, _, hat⟩ := at_int (ns := [4, 12, 28, 58, 60]) l3 u3
    obtain ⟨m, rfl⟩ : ∃ m : Nat, mi = (m : Int) := ⟨mi.toNat, by
      simp only [List.mem_cons, List.not_mem_nil, or_false] at hmi
      omega⟩
    have mc : m = 4 ∨ m = 12 ∨ m = 28 ∨ m = 58 ∨ m = 60 := by
      simp only [List.mem_cons, List.not_mem_nil, or_false] at hmi
      omega
    have S3 := A3.src _ S2
    refine ⟨o, _, r3, .int m, rfl, rfl, sql (hid_get (A3.same _ _ e2)).1, hat, _, rfl, by omega, by omega, fun D hD => ?_⟩
    have Da := S3.new1 hD
    have DH : H D = none := (A1.trans (A2.trans A3 (Int.le_refl _)) (Int.le_refl _)).free hS hD
    have m60 : m ≤ 60 := by omega
    refine lc_range (lo := 0) (n := _) (fun i H' => ∃ ws : List Int, hid a a H' D = some (.lst (ws.map V.int)) ∧ ws.length = i ∧ (∀ x ∈ ws, 0 ≤ x ∧ x < 1000000000000) ∧ Rdv a (2 * i) H3 H')
      ⟨[], hid_at upd_same Da Da, rfl, (fun _ z => nomatch z), (Rdv.of (same_new hD)).mono (by omega)⟩ (fun i H4 hi h => ?_) (fun H4 h => ?_)
    · obtain ⟨ws, hw, lw, kw, A4⟩ := h
      have hi : i < m := by omega
      have S4 := A4.src _ S3
      refine ⟨rfl, yes_thn ⟨_, rfl, _, _, rfl, rfl, ⟨by decide, by decide, by decide⟩, size_le (by show 2 ≤ 100000; decide), fun o2 ho2 => ?_⟩⟩
      have p12 : (10 : Int) ^ (12 : Int).toNat = 1000000000000 := by decide
      have no2 := S4.new1 ho2
      have A5 : Rdv a 0 H4 (upd H4 o2 (.lst [.int 2, .int ((10 : Int) ^ (12 : Int).toNat)])) := Rdv.of (same_new ho2)
      have e5 : hid a a (upd H4 o2 (.lst [.int 2, .int ((10 : Int) ^ (12 : Int).toNat)])) o2 = some (.lst (([2, (10 : Int) ^ (12 : Int).toNat] : List Int).map V.int)) := by
        rw [hid_oth no2 no2, upd_same]
        rfl
      generalize upd H4 o2 (.lst [.int 2, .int ((10 : Int) ^ (12 : Int).toNat)]) = H5 at *
      have S5 := A5.src _ S4
      refine ⟨_, rfl, a, _, 2, rfl, S5, by omega, by decide, by decide, fun H6 r6 A6 l6 u6 => ?_⟩
      obtain ⟨lm, hlm, _, hat6⟩ := at_int (ns := [2, (10 : Int) ^ (12 : Int).toNat]) l6 u6
      have lmb : 2 ≤ lm ∧ lm ≤ 1000000000000 := by
        simp only [List.mem_cons, List.not_mem_nil, or_false] at hlm
        omega
      have S6 := A6.src _ S5
      refine ⟨o2, _, r6, .int lm, rfl, rfl, sql (hid_get (A6.same _ _ e5)).1, hat6, a, _, lm, rfl, S6, by omega, by omega, by omega, fun H7 x A7 l7 u7 => ?_⟩
      have A47 := A5.trans (A6.trans A7 (Int.le_refl _)) (Int.le_refl _)
      have hw7 := A47.same _ _ hw
      refine ⟨_, (hid_get hw7).1, size_lt (by rw [List.length_map]; omega), ws ++ [x], by rw [hid_oth Da Da, upd_same, List.map_append]; rfl, by rw [List.length_append, lw]; rfl, fun y hy => ?_, ?_⟩
      · rcases List.mem_append.mp hy with z | z
        · exact kw y z
        · rw [List.mem_singleton.mp z]
          omega
      · exact ((A4.trans A47 (Int.le_refl _)).mut S3 hD).mono (by omega)
    · obtain ⟨ws, hw, lw, kw, A4⟩ := h
      have lwm : ws.length = m := by rw [lw]; omega
      have S4 := A4.src _ S3
      refine ⟨_, rfl, _, rfl, _, rfl, D, _, rfl, .inl (sql (hid_get hw).1), _, _, rfl, rfl, a, _, (m : Int) - 1, by rw [List.length_map, lwm]; rfl, S4, by omega, by omega, by omega, fun H5 j A5 l5 u5 => ?_⟩
      have hw5 := A5.same _ _ hw
      refine ⟨D, _, j, j.toNat, rfl, rfl, (hid_get hw5).1, ixN_at l5 (by rw [List.length_map]; omega), ?_⟩
      have A6 := (A4.trans A5 (Int.le_refl _)).mut (o := .lst ((ws.map V.int).set j.toNat (.int 5))) S3 hD
      have hw6 : hid a a (upd H5 D (.lst ((ws.map V.int).set j.toNat (.int 5)))) D = some (.lst ((ws.set j.toNat 5).map V.int)) := by rw [hid_oth Da Da, upd_same, List.map_set]
      have ew6 : upd H5 D (.lst ((ws.map V.int).set j.toNat (.int 5))) D = some (.lst ((ws.set j.toNat 5).map V.int)) := (hid_get hw6).1
      generalize upd H5 D (.lst ((ws.map V.int).set j.toNat (.int 5))) = H6 at *
      have lm : ((ws.set j.toNat 5).map V.int).length = m := by rw [List.length_map, List.length_set, lwm]
      have ix : ixN ((ws.set j.toNat 5).map V.int).length (-1) = some (m - 1) := by
        rw [lm]
        unfold ixN
        rw [if_neg (by decide), if_pos (by omega)]
        congr 1
        omega
      refine ⟨_, rfl, _, rfl, D, _, -1, m - 1, rfl, rfl, ew6, ix, ?_⟩
      have A7 := A6.mut (o := .lst (((ws.set j.toNat 5).map V.int).set (m - 1) (.int 6))) S3 hD
      have hw7 : hid a a (upd H6 D (.lst (((ws.set j.toNat 5).map V.int).set (m - 1) (.int 6)))) D = some (.lst ((((ws.set j.toNat 5).set (m - 1) 6)).map V.int)) := by
        rw [hid_oth Da Da, upd_same]
        simp only [List.map_set]
      generalize upd H6 D (.lst (((ws.set j.toNat 5).map V.int).set (m - 1) (.int 6))) = H7 at *
      have l7 : ((ws.set j.toNat 5).set (m - 1) 6).length = m := by rw [List.length_set, List.length_set, lwm]
      refine ⟨_, rfl, q H7 D _ ((A1.trans (A2.trans (A3.trans A7 (Int.le_refl _)) (Int.le_refl _)) (Int.le_refl _)).mono (by omega)) DH hw7 ⟨uns_prime (by rw [l7]; omega) (fun k k2 kl => ?_), not_flat (i := j.toNat) (j := m - 1) (x := 5) (y := 6) ?_ ?_ (by decide), by rw [l7]; omega, by rw [l7]; omega, fun x hx => ?_⟩⟩
      · rw [l7] at kl ⊢
        have pr : ∀ p ∈ [5, 13, 29, 59, 61], ∀ k : Nat, k < p → 2 ≤ k → ¬ k ∣ p := by decide
        exact pr (m + 1) (by simp only [List.mem_cons, List.not_mem_nil, or_false]; omega) k kl k2
      · rw [List.getElem?_set_ne (by omega), List.getElem?_set_self (by omega)]
      · rw [List.getElem?_set_self (by rw [List.length_set, lwm]; omega)]
      · rcases List.mem_or_eq_of_mem_set hx with z | z
        · rcases List.mem_or_eq_of_mem_set z with y | y
          · exact kw x y
          · rw [y]; decide
        · rw [z]; decide

end
end Rn
namespace Rn
open PySem PySem.Spec PyProof.Rows L2
section
variable {P : Program} {w : World} {K : PySem.W.Frag} {mg : Str → Option Value} {base : Heap}
theorem int_eqL {x y : Int} {A B : Prop} (h1 : x = y → A) (h2 : ¬ x = y → B) : if decide (V.int x = V.int y) = true then A else B := by
  split
  · rename_i e
    have e := of_decide_eq_true e
    injection e with e
    exact h1 e
  · rename_i e
    exact h2 fun z => e (decide_eq_true (by rw [z]))
theorem flat_niceP : ∀ Ls : List Lay, (∀ L ∈ Ls, L.nice) → ∀ x ∈ flatL Ls, 0 ≤ x ∧ x < 1000000000000
  | [], _, x, hx => by cases hx
  | L :: Ls, h, x, hx => by
    rw [flatL_cons fun M hM => (h M hM).1] at hx
    rcases nestL_mem hx with z | z
    · obtain ⟨h1, h2⟩ := h L List.mem_cons_self
      cases L with
      | pol ns => exact h2.2 x z
      | con w n =>
        have z : x ∈ List.replicate (n - 1).toNat w := z
        rw [(List.mem_replicate.mp z).2]
        rw [Lay.ok_con, Bool.and_eq_true] at h1
        exact ⟨of_decide_eq_true h1.1, h2.1⟩
    · exact flat_niceP Ls (fun M hM => h M (List.mem_cons_of_mem _ hM)) x z
theorem nest_lowL {a d p : Addr} {G : Hp} {Ls : List Lay} (h : NestAt (hid a d G) p Ls) : NestAt G p Ls := by
  obtain ⟨vs, h1, h2, h3⟩ := h
  refine ⟨vs, (hid_get h1).1, h2, fun i v L x y => ?_⟩
  have := h3 i v L x y
  cases L with
  | pol ns => obtain ⟨p, e, z⟩ := this; exact ⟨p, e, (hid_get z).1⟩
  | con w n => obtain ⟨p, e, z⟩ := this; exact ⟨p, e, (hid_get z).1⟩
/-- what the law's layers and parts are -/
structure LPs (L : Lay) (Ls : List Lay) : Prop where
  big : L.ok = true ∧ match L with
    | .pol ns => 1 ≤ ns.length ∧ ns.length ≤ 60
    | .con _ n => n ≤ 100000000000000000000
  nice : L.nice
  pt : ∀ P ∈ Ls, P.nice ∧ ∀ ns, P = .pol ns → P.nf
  few : Ls.length ≤ 3
  some : Ls ≠ []
  flat : flatL Ls = L.waits
/-- the parts as they stand -/
def LyI (H : Hp) (a : Addr) (way c : Int) (σ : L2.St) (H' : Hp) : Prop := ∃ (pa : Addr) (Ls : List Lay) (y2 y4 y5 : Option V), σ = [some (.ref a), some (.int way), y2, some (.ref pa), y4, y5] ∧ Rdv a c H H' ∧ NestAt (hid a a H') pa Ls ∧
  (∀ P ∈ Ls, P.nice ∧ ∀ ns, P = .pol ns → P.nf) ∧ Ls.length ≤ 3 ∧ 2 ≤ attOf Ls ∧ attOf Ls ≤ 61
def sp_law_layer (K : PySem.W.Frag) : Sp := fun vs H Q _ => ∃ (a : Addr) (n : Int), vs = [.ref a] ∧ Rng H a n ∧ n ≤ 1000000 ∧
  ∀ H' t lv pa L Ls, Rdv a 900 H H' → H t = none → hid a a H' t = some (.tup [lv, .ref pa]) → LayAt (hid a a H') lv L → NestAt (hid a a H') pa Ls → LPs L Ls → Q (.ref t) H'
theorem ok_law_layer (T : Txt K mg) : FnOk P w K mg base CX0 3 T.f_law_layer T.d_law_layer ["rng"] (sp_law_layer K) := by
  have G_law_draw := (ok_law_draw (P := P) (w := w) (base := base) T).mono (by decide : 1 ≤ 2)
  have G_law_single := (ok_law_single (P := P) (w := w) (base := base) T)
  have G_law_flat := (ok_law_flat (P := P) (w := w) (base := base) T).mono (by decide : 1 ≤ 2)
  refine T.F_law_layer.ok sc_law_layer (fun vs H Q E h => ?_) (fun cdv A outer s H vs Q E hr h => ?_)
  · obtain ⟨a, n, rfl, _⟩ := h
    rfl
  obtain ⟨a, n, rfl, hS, hn, q⟩ := h
  refine ⟨_, (pss_cons (ps_set (i := 1) sc_law_layer.nd rfl (Or.inl rfl) (pe_call G_law_draw hr (by rfl) T.g_law_draw T.F_law_draw.kp T.b_law_draw .nil pass0 (pa_cons (pv 0) (pa_cons pe_int pa_nil))))
      (pss_cons (ps_if (pt_cmpR op_eq (pv 1) pe_int (nomark _))
      (pss_cons (ps_set (i := 2) sc_law_layer.nd rfl (Or.inl rfl) (pe_call G_law_single hr (by rfl) T.g_law_single T.F_law_single.kp T.b_law_single .nil pass0 (pa_cons (pv 0) pa_nil)))
      (pss_one (ps_ret (pe_tup (pa_cons (pv 2) (pa_cons (pe_lst (pa_cons (pv 2) pa_nil)) pa_nil))))))
      pss_nil)
      (pss_cons (ps_if (pt_cmpR op_eq (pv 1) pe_int (nomark _))
      (pss_cons (ps_set (i := 3) sc_law_layer.nd rfl (Or.inl rfl) (pe_lst (pa_cons (pe_tup (pa_cons (pe_call G_law_draw hr (by rfl) T.g_law_draw T.F_law_draw.kp T.b_law_draw .nil pass0 (pa_cons (pv 0) (pa_cons pe_int pa_nil))) (pa_cons (pe_op op_add pe_int (pe_call G_law_draw hr (by rfl) T.g_law_draw T.F_law_draw.kp T.b_law_draw .nil pass0 (pa_cons (pv 0) (pa_cons pe_int pa_nil)))) pa_nil))) (pa_cons (pe_lst (pa_cons pe_int (pa_cons pe_int pa_nil))) (pa_cons (pe_tup (pa_cons (pe_call G_law_draw hr (by rfl) T.g_law_draw T.F_law_draw.kp T.b_law_draw .nil pass0 (pa_cons (pv 0) (pa_cons pe_int pa_nil))) (pa_cons (pe_op op_add pe_int (pe_call G_law_draw hr (by rfl) T.g_law_draw T.F_law_draw.kp T.b_law_draw .nil pass0 (pa_cons (pv 0) (pa_cons pe_int pa_nil)))) pa_nil))) pa_nil)))))
      (Evl.pss_cut (ps_if (pt_cmpR op_eq (pe_call G_law_draw hr (by rfl) T.g_law_draw T.F_law_draw.kp T.b_law_draw .nil pass0 (pa_cons (pv 0) (pa_cons pe_int pa_nil))) pe_int (nomark _))
      (pss_one (ps_set (i := 3) sc_law_layer.nd rfl (Or.inl rfl) (pe_lst (pa_cons (pe_ix ix_list (pv 3) pe_int (fun _ _ => rfl)) (pa_cons (pe_ix ix_list (pv 3) pe_int (fun _ _ => rfl)) pa_nil)))))
      pss_nil)
      (Evl.pss_cut (ps_if (pt_cmpR op_eq (pe_call G_law_draw hr (by rfl) T.g_law_draw T.F_law_draw.kp T.b_law_draw .nil pass0 (pa_cons (pv 0) (pa_cons pe_int pa_nil))) pe_int (nomark _))
      (pss_cons (ps_set (i := 2) sc_law_layer.nd rfl (Or.inl rfl) (pe_call G_law_single hr (by rfl) T.g_law_single T.F_law_single.kp T.b_law_single .nil pass0 (pa_cons (pv 0) pa_nil)))
      (pss_one (ps_set (i := 3) sc_law_layer.nd rfl (Or.inl rfl) (pe_ifExp (pt_cmpR op_lt (pe_callB call_len_seq (by rfl) T.m_len PySem.boot_len (pa_cons (pv 2) pa_nil)) pe_int (nomark _)) (pe_lst (pa_cons (pv 2) (pa_cons (pe_tup (pa_cons (pe_call G_law_draw hr (by rfl) T.g_law_draw T.F_law_draw.kp T.b_law_draw .nil pass0 (pa_cons (pv 0) (pa_cons pe_int pa_nil))) (pa_cons pe_int pa_nil))) pa_nil))) (pe_lst (pa_cons (pv 2) pa_nil))))))
      pss_nil)
      (pss_one (ps_ret (pe_tup (pa_cons (pe_call G_law_flat hr (by rfl) T.g_law_flat T.F_law_flat.kp T.b_law_flat .nil pass0 (pa_cons (pv 3) pa_nil)) (pa_cons (pv 3) pa_nil))))))))
      pss_nil)
      (pss_cons (ps_set (i := 4) sc_law_layer.nd rfl (Or.inl rfl) (pe_ix ix_list (pe_lst (pa_cons pe_int (pa_cons (pe_op op_pow pe_int pe_int) (pa_cons (pe_op op_sub (pe_op op_pow pe_int pe_int) pe_int) pa_nil)))) (pe_call G_law_draw hr (by rfl) T.g_law_draw T.F_law_draw.kp T.b_law_draw .nil pass0 (pa_cons (pv 0) (pa_cons pe_int pa_nil))) (fun _ _ => rfl)))
      (pss_cons (ps_set (i := 5) sc_law_layer.nd rfl (Or.inl rfl) (pe_tup (pa_cons (pe_call G_law_draw hr (by rfl) T.g_law_draw T.F_law_draw.kp T.b_law_draw .nil pass0 (pa_cons (pv 0) (pa_cons pe_int pa_nil))) (pa_cons (pe_op op_add pe_int (pe_call G_law_draw hr (by rfl) T.g_law_draw T.F_law_draw.kp T.b_law_draw .nil pass0 (pa_cons (pv 0) (pa_cons (pv 4) pa_nil)))) pa_nil))))
      (pss_one (ps_ret (pe_tup (pa_cons (pv 5) (pa_cons (pe_lst (pa_cons (pv 5) pa_nil)) pa_nil)))))))))), ?_⟩
  refine ⟨_, rfl, a, _, 6, rfl, hS, by omega, by decide, by decide, fun H1 way A1 w0 w1 => ?_⟩
  have S1 := A1.src _ hS
  -- the answer
  have out : ∀ (G : Hp) (lv : V) (pa : Addr) (L : Lay) (Ls : List Lay) (c : Int), Rdv a c H G → c ≤ 900 → LayAt (hid a a G) lv L → NestAt (hid a a G) pa Ls → LPs L Ls → ∀ t, G t = none → Q (.ref t) (upd G t (.tup [lv, .ref pa])) := fun G lv pa L Ls c A hc hl hN lp t ht => by
    have ta := (A.src _ hS).new1 ht
    have st := same_new (o := .tup [lv, .ref pa]) ht
    exact q _ t lv pa L Ls ((A.trans (Rdv.of st) (Int.le_refl _)).mono (by omega)) (A.free hS ht) (hid_at upd_same ta ta) (hl.same (hid_same st)) (hN.same (hid_same st)) lp
  have sng : ∀ ws, Sng ws → (Lay.pol ws).nf := fun ws h => ⟨h.1, h.2.1, fun x hx => (h.2.2.2.2 x hx).1⟩
  have sngn : ∀ ws, Sng ws → (Lay.pol ws).nice := fun ws h => Lay.nice_pol h.2.2.1 h.2.2.2.2
  have one : ∀ (L : Lay), L.nice → (∀ ns, L = .pol ns → Sng ns) → (∀ w k, L = .con w k → k ≤ 100000000000000000000) → LPs L [L] := fun L hn hp hc => by
    refine ⟨⟨hn.1, ?_⟩, hn, fun P hP => ?_, by show 1 ≤ 3; decide, (fun z => nomatch z), ?_⟩
    · cases L with
      | pol ns => have := hp ns rfl; exact ⟨by have := this.2.2.2.1; omega, this.2.2.1⟩
      | con w k => exact hc w k rfl
    · rw [List.mem_singleton.mp hP]
      exact ⟨hn, fun ns e => by rw [e]; exact sng ns (hp ns e)⟩
    · rw [flatL_cons (fun M hM => by rw [List.mem_singleton.mp hM]; exact hn.1)]
      exact nestL_nil _
  refine ⟨_, rfl, rfl, _, rfl, int_eqL (fun e => ?_) (fun e => ?_)⟩
  · -- an unsplittable list
    refine ⟨_, rfl, a, _, rfl, S1, by omega, fun H2 p ws A2 f2 e2 sg => ?_⟩
    have S2 := A2.src _ S1
    refine ⟨_, rfl, _, rfl, size_le (by show 1 ≤ 100000; decide), fun o ho => ⟨size_le (by show 2 ≤ 100000; decide), fun t ht => ?_⟩⟩
    have so := same_new (o := .lst [.ref p]) ho
    have oa := S2.new1 ho
    have e3 := hid_same (a := a) (d := a) so _ _ e2
    exact out _ (.ref p) o (.pol ws) [.pol ws] _ ((A1.trans A2 (Int.le_refl _)).trans (Rdv.of so) (Int.le_refl _)) (by omega) ⟨p, rfl, e3⟩ (nest_of (hid_at upd_same oa oa) (.cons ⟨p, rfl, e3⟩ .nil)) (one _ (sngn ws sg) (fun ns e => by injection e with e; rw [← e]; exact sg) (fun _ _ e => by cases e)) t ht
  · refine ⟨_, rfl, rfl, _, rfl, int_eqL (fun e => ?_) (fun e => ?_)⟩
    · refine ⟨_, rfl, a, _, 3, rfl, S1, by omega, by decide, by decide, fun H2 r2 A2 l2 u2 => ?_⟩
      have S2 := A2.src _ S1
      refine ⟨_, rfl, a, _, 3, rfl, S2, by omega, by decide, by decide, fun H3 r3 A3 l3 u3 => ⟨_, _, rfl, rfl, size_le (by show 2 ≤ 100000; decide), fun t1 ht1 => ?_⟩⟩
      have S3 := A3.src _ S2
      have s1 := same_new (o := .tup [.int r2, .int (2 + r3)]) ht1
      have ta1 := S3.new1 ht1
      have e1 : hid a a (upd H3 t1 (.tup [.int r2, .int (2 + r3)])) t1 = some (.tup [.int r2, .int (2 + r3)]) := hid_at upd_same ta1 ta1
      generalize upd H3 t1 (.tup [.int r2, .int (2 + r3)]) = H4 at *
      have S4 := S3.same s1
      refine ⟨size_le (by show 2 ≤ 100000; decide), fun t2 ht2 => ?_⟩
      have s2 := same_new (o := .lst [.int 1, .int 2]) ht2
      have ta2 := S4.new1 ht2
      have e2 : hid a a (upd H4 t2 (.lst [.int 1, .int 2])) t2 = some (.lst [.int 1, .int 2]) := hid_at upd_same ta2 ta2
      generalize upd H4 t2 (.lst [.int 1, .int 2]) = H5 at *
      have S5 := S4.same s2
      refine ⟨_, rfl, a, _, 3, rfl, S5, by omega, by decide, by decide, fun H6 r6 A6 l6 u6 => ?_⟩
      have S6 := A6.src _ S5
      refine ⟨_, rfl, a, _, 3, rfl, S6, by omega, by decide, by decide, fun H7 r7 A7 l7 u7 => ⟨_, _, rfl, rfl, size_le (by show 2 ≤ 100000; decide), fun t3 ht3 => ⟨size_le (by show 3 ≤ 100000; decide), fun o ho => ?_⟩⟩⟩
      have S7 := A7.src _ S6
      have s3 := same_new (o := .tup [.int r6, .int (2 + r7)]) ht3
      have ta3 := S7.new1 ht3
      have e3 : hid a a (upd H7 t3 (.tup [.int r6, .int (2 + r7)])) t3 = some (.tup [.int r6, .int (2 + r7)]) := hid_at upd_same ta3 ta3
      generalize upd H7 t3 (.tup [.int r6, .int (2 + r7)]) = H8 at *
      have S8 := S7.same s3
      have so := same_new (o := .lst [.ref t1, .ref t2, .ref t3]) ho
      have oa := S8.new1 ho
      have eo : hid a a (upd H8 o (.lst [.ref t1, .ref t2, .ref t3])) o = some (.lst [.ref t1, .ref t2, .ref t3]) := hid_at upd_same oa oa
      generalize upd H8 o (.lst [.ref t1, .ref t2, .ref t3]) = H9 at *
      have s48 := (hid_same (a := a) (d := a) s2).trans (A6.same.trans (A7.same.trans ((hid_same s3).trans (hid_same so))))
      have s58 := A6.same.trans (A7.same.trans ((hid_same s3).trans (hid_same (a := a) (d := a) so)))
      have e19 := s48 _ _ e1
      have e29 := s58 _ _ e2
      have e39 := hid_same (a := a) (d := a) so _ _ e3
      have A9 : Rdv a 10 H H9 := (A1.trans (A2.trans (A3.trans ((Rdv.of (s1.trans s2)).trans (A6.trans (A7.trans (Rdv.of (s3.trans so)) (Int.le_refl _)) (Int.le_refl _)) (Int.le_refl _)) (Int.le_refl _)) (Int.le_refl _)) (Int.le_refl _)).mono (by omega)
      have n1 : (Lay.con r2 (2 + r3)).nice := Lay.nice_con (by omega) (by omega) (by omega) (by omega)
      have n2 : (Lay.pol [1, 2]).nice := Lay.nice_pol (by decide) (by decide)
      have n3 : (Lay.con r6 (2 + r7)).nice := Lay.nice_con (by omega) (by omega) (by omega) (by omega)
      have f2 : (Lay.pol [1, 2]).nf := sng [1, 2] (fixed_ok _ List.mem_cons_self)
      have att3 : attOf [Lay.con r2 (2 + r3), .pol [1, 2], .con r6 (2 + r7)] = 1 * (2 + r3) * 3 * (2 + r7) := rfl
      have att2 : attOf [Lay.con r2 (2 + r3), .con r6 (2 + r7)] = 1 * (2 + r3) * (2 + r7) := rfl
      have r3c : r3 = 0 ∨ r3 = 1 ∨ r3 = 2 := by omega
      have r7c : r7 = 0 ∨ r7 = 1 ∨ r7 = 2 := by omega
      have good : ∀ P ∈ [Lay.con r2 (2 + r3), .pol [1, 2], .con r6 (2 + r7)], P.nice ∧ ∀ ns, P = .pol ns → P.nf := fun P hP => by
        simp only [List.mem_cons, List.not_mem_nil, or_false] at hP
        rcases hP with rfl | rfl | rfl
        · exact ⟨n1, fun _ e => by cases e⟩
        · exact ⟨n2, fun _ _ => f2⟩
        · exact ⟨n3, fun _ e => by cases e⟩
      have S9 := A9.src _ hS
      refine ⟨LyI H a way 20, ?_, fun σ' Hb hb => ?_⟩
      · refine ⟨_, rfl, a, _, 2, rfl, S9, by omega, by decide, by decide, fun Ha ra Aa _ _ => ⟨rfl, _, rfl, ite2 (fun _ => ?_) (fun _ => ?_)⟩⟩
        · have eo := Aa.same _ _ eo
          refine ⟨_, rfl, o, _, 0, _, rfl, rfl, sql (hid_get eo).1, rfl, _, rfl, o, _, 2, _, rfl, rfl, sql (hid_get eo).1, rfl, size_le (by show 2 ≤ 100000; decide), fun o2 ho2 => ?_⟩
          have so2 := same_new (o := .lst [.ref t1, .ref t3]) ho2
          have oa2 := (Aa.src _ S9).new1 ho2
          refine ⟨o2, [.con r2 (2 + r3), .con r6 (2 + r7)], _, _, _, rfl, (A9.trans (Aa.trans (Rdv.of so2) (Int.le_refl _)) (Int.le_refl _)).mono (by omega), nest_of (hid_at upd_same oa2 oa2) (.cons ⟨t1, rfl, hid_same so2 _ _ (Aa.same _ _ e19)⟩ (.cons ⟨t3, rfl, hid_same so2 _ _ (Aa.same _ _ e39)⟩ .nil)), fun P hP => ?_, by show 2 ≤ 3; decide, ?_, ?_⟩
          · simp only [List.mem_cons, List.not_mem_nil, or_false] at hP
            rcases hP with rfl | rfl
            · exact ⟨n1, fun _ e => by cases e⟩
            · exact ⟨n3, fun _ e => by cases e⟩
          · rw [att2]; rcases r3c with rfl | rfl | rfl <;> rcases r7c with rfl | rfl | rfl <;> decide
          · rw [att2]; rcases r3c with rfl | rfl | rfl <;> rcases r7c with rfl | rfl | rfl <;> decide
        · refine ⟨o, [.con r2 (2 + r3), .pol [1, 2], .con r6 (2 + r7)], _, _, _, rfl, (A9.trans Aa (Int.le_refl _)).mono (by omega), nest_of (Aa.same _ _ eo) (.cons ⟨t1, rfl, Aa.same _ _ e19⟩ (.cons ⟨t2, rfl, Aa.same _ _ e29⟩ (.cons ⟨t3, rfl, Aa.same _ _ e39⟩ .nil))), good, by show 3 ≤ 3; decide, ?_, ?_⟩
          · rw [att3]; rcases r3c with rfl | rfl | rfl <;> rcases r7c with rfl | rfl | rfl <;> decide
          · rw [att3]; rcases r3c with rfl | rfl | rfl <;> rcases r7c with rfl | rfl | rfl <;> decide
      obtain ⟨pa, Ls, y2, y4, y5, rfl, Ab, Nb, gb, lb, b2, b61⟩ := hb
      have Sb := Ab.src _ hS
      refine ⟨LyI H a way 300, ?_, fun σ' Hc hc => ?_⟩
      · refine ⟨_, rfl, a, _, 3, rfl, Sb, by omega, by decide, by decide, fun Hd rd Ad _ _ => ⟨rfl, _, rfl, ite2 (fun _ => ?_) (fun _ => ⟨pa, Ls, _, _, _, rfl, (Ab.trans Ad (Int.le_refl _)).mono (by omega), Nb.same Ad.same, gb, lb, b2, b61⟩)⟩⟩
        have Sd := Ad.src _ Sb
        refine ⟨_, rfl, a, _, rfl, Sd, by omega, fun He p ws Ae fe ee sg => ?_⟩
        have Se := Ae.src _ Sd
        have Ae' := Ab.trans (Ad.trans Ae (Int.le_refl _)) (Int.le_refl _)
        have nw := sngn ws sg
        have fw := sng ws sg
        refine ⟨_, rfl, p, _, rfl, .inl (sql (hid_get ee).1), _, _, rfl, rfl, _, rfl, ite2 (fun el => ?_) (fun _ => ?_)⟩
        · have el := of_decide_eq_true el
          rw [List.length_map] at el
          refine ⟨_, rfl, _, rfl, a, _, 3, rfl, Se, by omega, by decide, by decide, fun Hf r A l u => ⟨size_le (by show 2 ≤ 100000; decide), fun t ht => ⟨size_le (by show 2 ≤ 100000; decide), fun o2 ho2 => ?_⟩⟩⟩
          have Sf := A.src _ Se
          have st := same_new (o := .tup [.int r, .int 2]) ht
          have ta := Sf.new1 ht
          have et : hid a a (upd Hf t (.tup [.int r, .int 2])) t = some (.tup [.int r, .int 2]) := hid_at upd_same ta ta
          generalize upd Hf t (.tup [.int r, .int 2]) = Hg at *
          have so2 := same_new (o := .lst [.ref p, .ref t]) ho2
          have oa2 := (Sf.same st).new1 ho2
          have nc : (Lay.con r 2).nice := Lay.nice_con (by omega) (by omega) (by decide) (by decide)
          have at2 : attOf [Lay.pol ws, .con r 2] = 1 * ((ws.length : Int) + 1) * 2 := rfl
          refine ⟨o2, [.pol ws, .con r 2], _, _, _, rfl, (Ae'.trans (A.trans (Rdv.of (st.trans so2)) (Int.le_refl _)) (Int.le_refl _)).mono (by omega), nest_of (hid_at upd_same oa2 oa2) (.cons ⟨p, rfl, hid_same so2 _ _ (hid_same st _ _ (A.same _ _ ee))⟩ (.cons ⟨t, rfl, hid_same so2 _ _ et⟩ .nil)), fun P hP => ?_, by show 2 ≤ 3; decide, by rw [at2]; omega, by rw [at2]; omega⟩
          simp only [List.mem_cons, List.not_mem_nil, or_false] at hP
          rcases hP with rfl | rfl
          · exact ⟨nw, fun _ _ => fw⟩
          · exact ⟨nc, fun _ e => by cases e⟩
        · refine ⟨_, rfl, size_le (by show 1 ≤ 100000; decide), fun o2 ho2 => ?_⟩
          have so2 := same_new (o := .lst [.ref p]) ho2
          have oa2 := Se.new1 ho2
          have at1 : attOf [Lay.pol ws] = 1 * ((ws.length : Int) + 1) := rfl
          have l60 := sg.2.2.1
          have l2' := sg.2.2.2.1
          exact ⟨o2, [.pol ws], _, _, _, rfl, (Ae'.trans (Rdv.of so2) (Int.le_refl _)).mono (by omega), nest_of (hid_at upd_same oa2 oa2) (.cons ⟨p, rfl, hid_same so2 _ _ ee⟩ .nil), fun P hP => by rw [List.mem_singleton.mp hP]; exact ⟨nw, fun _ _ => fw⟩, by show 1 ≤ 3; decide, by rw [at1]; omega, by rw [at1]; omega⟩
      · obtain ⟨pa, Ls, y2, y4, y5, rfl, Ac, Nc, gc, lc, c2, c61⟩ := hc
        have Sc := Ac.src _ hS
        have okc : ∀ L ∈ Ls, L.ok = true := fun L hL => (gc L hL).1.1
        have fl := flatL_len _ Ls rfl okc
        refine ⟨_, rfl, pa, Ls, rfl, nest_lowL Nc, okc, by omega, by omega, fun Hd w sd fd ed => ⟨_, rfl, size_le (by show 2 ≤ 100000; decide), fun t ht => ?_⟩⟩
        have wa := Sc.new1 fd
        have np : (Lay.pol (flatL Ls)).nice := Lay.nice_pol (by omega) (flat_niceP Ls fun L hL => (gc L hL).1)
        exact out Hd (.ref w) pa (.pol (flatL Ls)) Ls _ (Ac.trans (Rdv.of sd) (Int.le_refl _)) (by omega) ⟨w, rfl, hid_at ed wa wa⟩ (Nc.same (hid_same sd)) ⟨⟨np.1, by show 1 ≤ (flatL Ls).length; omega, by omega⟩, np, gc, lc, (fun z => by rw [z] at c2; exact absurd c2 (by decide)), rfl⟩ t ht
    · -- a constant layer
      refine ⟨_, _, rfl, rfl, ⟨by decide, by decide, by decide⟩, _, _, rfl, rfl, ⟨by decide, by decide, by decide⟩, _, _, rfl, rfl, size_le (by show 3 ≤ 100000; decide), fun o ho => ?_⟩
      have p6 : (10 : Int) ^ (6 : Int).toNat = 1000000 := by decide
      have p20 : (10 : Int) ^ (20 : Int).toNat = 100000000000000000000 := by decide
      have no := S1.new1 ho
      have A2 : Rdv a 0 H1 (upd H1 o (.lst [.int 6, .int ((10 : Int) ^ (6 : Int).toNat), .int ((10 : Int) ^ (20 : Int).toNat - 1)])) := Rdv.of (same_new ho)
      have e2 : hid a a (upd H1 o (.lst [.int 6, .int ((10 : Int) ^ (6 : Int).toNat), .int ((10 : Int) ^ (20 : Int).toNat - 1)])) o = some (.lst (([6, (10 : Int) ^ (6 : Int).toNat, (10 : Int) ^ (20 : Int).toNat - 1] : List Int).map V.int)) := by
        rw [hid_oth no no, upd_same]
        rfl
      generalize upd H1 o (.lst [.int 6, .int ((10 : Int) ^ (6 : Int).toNat), .int ((10 : Int) ^ (20 : Int).toNat - 1)]) = H2 at *
      have S2 := A2.src _ S1
      refine ⟨_, rfl, a, _, 3, rfl, S2, by omega, by decide, by decide, fun H3 r3 A3 l3 u3 => ?_⟩
      obtain ⟨wd, hwd, _, hat⟩ := at_int (ns := [6, (10 : Int) ^ (6 : Int).toNat, (10 : Int) ^ (20 : Int).toNat - 1]) l3 u3
      have wb : 1 ≤ wd ∧ wd < 100000000000000000000 := by
        simp only [List.mem_cons, List.not_mem_nil, or_false] at hwd
        omega
      have S3 := A3.src _ S2
      refine ⟨o, _, r3, .int wd, rfl, rfl, sql (hid_get (A3.same _ _ e2)).1, hat, ?_⟩
      refine ⟨_, rfl, a, _, 3, rfl, S3, by omega, by decide, by decide, fun H4 r4 A4 l4 u4 => ?_⟩
      have S4 := A4.src _ S3
      refine ⟨_, rfl, _, rfl, a, _, wd, rfl, S4, by omega, by omega, by omega, fun H5 r5 A5 l5 u5 => ⟨_, _, rfl, rfl, size_le (by show 2 ≤ 100000; decide), fun t ht => ?_⟩⟩
      have S5 := A5.src _ S4
      have st := same_new (o := .tup [.int r4, .int (1 + r5)]) ht
      have ta := S5.new1 ht
      have et : hid a a (upd H5 t (.tup [.int r4, .int (1 + r5)])) t = some (.tup [.int r4, .int (1 + r5)]) := hid_at upd_same ta ta
      generalize upd H5 t (.tup [.int r4, .int (1 + r5)]) = H6 at *
      have S6 := S5.same st
      refine ⟨_, rfl, _, rfl, size_le (by show 1 ≤ 100000; decide), fun o2 ho2 => ⟨size_le (by show 2 ≤ 100000; decide), fun t2 ht2 => ?_⟩⟩
      have so2 := same_new (o := .lst [.ref t]) ho2
      have oa2 := S6.new1 ho2
      have et2 := hid_same (a := a) (d := a) so2 _ _ et
      have nc : (Lay.con r4 (1 + r5)).nice := Lay.nice_con (by omega) (by omega) (by omega) (by omega)
      exact out _ (.ref t) o2 (.con r4 (1 + r5)) [.con r4 (1 + r5)] _ (A1.trans (A2.trans (A3.trans (A4.trans (A5.trans (Rdv.of (st.trans so2)) (Int.le_refl _)) (Int.le_refl _)) (Int.le_refl _)) (Int.le_refl _)) (Int.le_refl _)) (by omega) ⟨t, rfl, et2⟩ (nest_of (hid_at upd_same oa2 oa2) (.cons ⟨t, rfl, et2⟩ .nil)) (one _ nc (fun _ e => by cases e) (fun w' k' e => by injection e with _ e; omega)) t2 ht2

end
end Rn
namespace Rn
open PySem PySem.Spec PyProof.Rows L2
section
variable {P : Program} {w : World} {K : PySem.W.Frag} {mg : Str → Option Value} {base : Heap}
theorem int_eqD {x y : Int} {A B : Prop} (h1 : x = y → A) (h2 : ¬ x = y → B) : if decide (V.int x = V.int y) = true then A else B := by
  split
  · rename_i e
    have e := of_decide_eq_true e
    injection e with e
    exact h1 e
  · rename_i e
    exact h2 fun z => e (decide_eq_true (by rw [z]))
def stepL (acc : List Lay) (L : Lay) : List Lay := match L with
  | .con w n => if 1 < n then pushL acc (.con w n) else acc
  | .pol ns => pushL acc (.pol ns)
/-- a part of the law -/
def Pt (L : Lay) : Prop := L.ok = true ∧ ∀ ns, L = .pol ns → L.nf
theorem step_ok {acc : List Lay} {L : Lay} (h : NF acc) (hL : Pt L) : NF (stepL acc L) ∧ flatL (stepL acc L) = nestL (flatL acc) L.waits := by
  cases L with
  | pol ns => exact push_ok h (hL.2 ns rfl)
  | con w n =>
    have ok := hL.1
    rw [Lay.ok_con, Bool.and_eq_true] at ok
    have w0 := of_decide_eq_true ok.1
    have n1 := of_decide_eq_true ok.2
    unfold stepL
    dsimp only
    by_cases e : 1 < n
    · rw [if_pos e]
      exact push_ok h ⟨w0, by omega⟩
    · rw [if_neg e]
      refine ⟨h, ?_⟩
      have : (Lay.con w n).waits = [] := by
        show List.replicate (n - 1).toNat w = []
        rw [show (n - 1).toNat = 0 by omega]
        rfl
      rw [this, nestL_nil]
theorem steps_ok : ∀ (Ls : List Lay) {acc : List Lay}, NF acc → (∀ L ∈ Ls, Pt L) → NF (Ls.foldl stepL acc) ∧ flatL (Ls.foldl stepL acc) = nestL (flatL acc) (flatL Ls)
  | [], acc, h, _ => ⟨h, by rw [show flatL ([] : List Lay) = [] from rfl, nestL_nil]; rfl⟩
  | L :: Ls, acc, h, hL => by
    obtain ⟨a, b⟩ := step_ok h (hL L List.mem_cons_self)
    obtain ⟨c, d⟩ := steps_ok Ls a fun M hM => hL M (List.mem_cons_of_mem _ hM)
    refine ⟨c, ?_⟩
    show flatL (Ls.foldl stepL (stepL acc L)) = _
    rw [d, b, flatL_cons (fun M hM => (hL M hM).1), nestL_assoc]
/-- the normal form of the parts -/
def dueL (Ls : List Lay) : List Lay := Ls.foldl stepL []
theorem due_ok {Ls : List Lay} (h : ∀ L ∈ Ls, Pt L) : NF (dueL Ls) ∧ flatL (dueL Ls) = flatL Ls := by
  have := steps_ok Ls (acc := []) ⟨(fun _ z => nomatch z), fun i w n w' m a => by cases a⟩ h
  refine ⟨this.1, this.2.trans ?_⟩
  show nestL [] (flatL Ls) = flatL Ls
  unfold nestL
  rw [List.nil_append]
  induction flatL Ls with
  | nil => rfl
  | cons x xs ih => rw [List.flatMap_cons, ih]; rfl
/-- pairs of a layer and its parts -/
def Pairs (H : Hp) (vs : List V) (pss : List (List Lay)) : Prop := vs.length = pss.length ∧ ∀ (i : Nat) v Ls, vs[i]? = some v → pss[i]? = some Ls → ∃ t lv pa, v = .ref t ∧ H t = some (.tup [lv, .ref pa]) ∧ NestAt H pa Ls
theorem Pairs.same {H H' : Hp} {vs : List V} {pss : List (List Lay)} (h : Pairs H vs pss) (s : Same H H') : Pairs H' vs pss := ⟨h.1, fun i v Ls a b => by
  obtain ⟨t, lv, pa, e, h1, h2⟩ := h.2 i v Ls a b
  exact ⟨t, lv, pa, e, s _ _ h1, h2.same s⟩⟩
theorem layD_low {a d : Addr} {G : Hp} {v : V} {L : Lay} (h : LayAt (hid a d G) v L) : LayAt G v L := by
  cases L with
  | pol ns => obtain ⟨p, e, z⟩ := h; exact ⟨p, e, (hid_get z).1⟩
  | con w n => obtain ⟨p, e, z⟩ := h; exact ⟨p, e, (hid_get z).1⟩
def sp_law_due (K : PySem.W.Frag) : Sp := fun vs H Q _ => ∃ (b p : Addr) (ps : List V) (pss : List (List Lay)), vs = [.ref p] ∧ H p = some (.lst ps) ∧ (∃ o, H b = some o) ∧ Pairs (hid b b H) ps pss ∧ pss.length ≤ 20 ∧ (∀ Ls ∈ pss, Ls.length ≤ 10 ∧ ∀ L ∈ Ls, Pt L) ∧ (attOf pss.flatten).natAbs < 2 ^ 1000 ∧
  ∀ H' r, Same H H' → H r = none → NestAt (hid b b H') r (dueL pss.flatten) → Q (.ref r) H'
theorem ok_law_due (T : Txt K mg) : FnOk P w K mg base CX0 1 T.f_law_due T.d_law_due ["pairs"] (sp_law_due K) := by
  refine T.F_law_due.ok sc_law_due (fun vs H Q E h => ?_) (fun cdv A outer s H vs Q E hr h => ?_)
  · obtain ⟨b, p, ps, pss, rfl, _⟩ := h
    rfl
  obtain ⟨b, p, ps, pss, rfl, hp, ⟨ob, hb⟩, hP, l20, good, big, q⟩ := h
  refine ⟨_, (pss_cons (ps_set (i := 1) sc_law_due.nd rfl (Or.inl rfl) (pe_lst pa_nil))
      (pss_cons (ps_for PassesOwn.never rfl (pi_list (pv 0)) (pg_tup rfl (pgs_cons (pg_name (i := 2) sc_law_due.nd rfl (Or.inl rfl)) (pgs_cons (pg_name (i := 3) sc_law_due.nd rfl (Or.inl rfl)) pgs_nil)))
      (pss_one (ps_for PassesOwn.never rfl (pi_list (pv 3)) (pg_name (i := 4) sc_law_due.nd rfl (Or.inl rfl))
      (pss_one (ps_if (pt_val (pe_callB call_isi (by rfl) T.m_isinstance (by decide +kernel) (pa_cons (pv 4) (pa_cons (pe_bltn (v := .ty "list") (by rfl) T.m_list (by decide +kernel) rfl) pa_nil))))
      (pss_one (ps_expr (pe_bm PySem.F.plainAttrs_list PySem.F.slot_list_append PySem.F.type_list_append mt_append (pv 1) (pa_cons (pv 4) pa_nil))))
      (pss_one (ps_if (PW.pt (pw_and (pt_cmpR op_gt (pe_ix ix_tup (pv 4) pe_int (fun _ _ => rfl)) pe_int (nomark _)) (pw_and (pt_cmpR (op_neD hr.units) (pv 1) (pe_lst pa_nil) (nomark _)) (pw_and (pt_val (pe_callB call_isi (by rfl) T.m_isinstance (by decide +kernel) (pa_cons (pe_ix ix_list (pv 1) (pe_un un_neg pe_int) (fun _ _ => rfl)) (pa_cons (pe_bltn (v := .ty "tuple") (by rfl) T.m_tuple (by decide +kernel) rfl) pa_nil)))) (pw_and1 (pt_cmpR op_eq (pe_ix ix_tup (pe_ix ix_list (pv 1) (pe_un un_neg pe_int) (fun _ _ => rfl)) pe_int (fun _ _ => rfl)) (pe_ix ix_tup (pv 4) pe_int (fun _ _ => rfl)) (nomark _)))))))
      (pss_one (ps_asg (pe_tup (pa_cons (pe_ix ix_tup (pv 4) pe_int (fun _ _ => rfl)) (pa_cons (pe_op op_mulW (pe_ix ix_tup (pe_ix ix_list (pv 1) (pe_un un_neg pe_int) (fun _ _ => rfl)) pe_int (fun _ _ => rfl)) (pe_ix ix_tup (pv 4) pe_int (fun _ _ => rfl))) pa_nil))) (pg_sub (pv 1) (pe_un un_neg pe_int) set_list)))
      (pss_one (ps_if (pt_cmpR op_gt (pe_ix ix_tup (pv 4) pe_int (fun _ _ => rfl)) pe_int (nomark _))
      (pss_one (ps_expr (pe_bm PySem.F.plainAttrs_list PySem.F.slot_list_append PySem.F.type_list_append mt_append (pv 1) (pa_cons (pv 4) pa_nil))))
      pss_nil)))))))))
      (pss_one (ps_ret (pv 1))))), ?_⟩
  refine ⟨Nat.zero_le _, fun r hr' => ?_⟩
  have sr := same_new (o := .lst []) hr'
  have okF : ∀ L ∈ pss.flatten, Pt L := fun L hL => by
    obtain ⟨Ls, h1, h2⟩ := List.mem_flatten.mp hL
    exact (good Ls h1).2 L h2
  refine ⟨_, rfl, p, rfl, ⟨_, sql (sr _ _ hp)⟩, for_list (xs := ps) (fun i σ H' => ∃ us y2 y3 y4, σ = [some (.ref p), some (.ref r), y2, y3, y4] ∧ Same H H' ∧ H' r = some (.lst us) ∧ Lays H' us (dueL (pss.take i).flatten) ∧ (∀ x, V.ref x ∈ us → x ≠ r ∧ x ≠ b) ∧ us.length ≤ 10 * i)
    ⟨[], none, none, none, rfl, sr, upd_same, ⟨rfl, fun i v L a => by cases a⟩, (fun _ z => nomatch z), Nat.zero_le _⟩ (fun i σ H' _ h => by obtain ⟨_, _, _, _, _, sm, _⟩ := h; exact sql (sm _ _ hp)) (fun i v σ H2 hv h => ?_) (fun σ H2 h => ?_)⟩
  · obtain ⟨us, y2, y3, y4, rfl, sm, er, lu, ur, ul⟩ := h
    have hi : i < pss.length := by
      rw [← hP.1]
      exact (List.getElem?_eq_some_iff.mp hv).1
    have hi' := List.getElem?_eq_getElem hi
    obtain ⟨t, lv, pa, rfl, ht, hN⟩ := hP.2 i v _ hv hi'
    have ht := (hid_get ht).1
    have gi := good _ (List.getElem_mem hi)
    have tk : pss.take (i + 1) = pss.take i ++ [pss[i]] := by rw [List.take_add_one, hi']; rfl
    have split : pss = pss.take i ++ pss[i] :: pss.drop (i + 1) := by rw [← List.drop_eq_getElem_cons hi, List.take_append_drop]
    refine ⟨t, _, rfl, sqt (sm _ _ ht), rfl, _, _, rfl, _, _, rfl, rfl, ?_⟩
    generalize pss[i] = Ls at *
    obtain ⟨qs, eq, lq, aq⟩ := id hN
    have eq := (hid_get eq).1
    refine ⟨_, rfl, pa, rfl, ⟨_, sql (sm _ _ eq)⟩, for_list (xs := qs) (fun j σ H' => ∃ us y4, σ = [some (.ref p), some (.ref r), some lv, some (.ref pa), y4] ∧ Same H H' ∧ H' r = some (.lst us) ∧ Lays H' us (dueL ((pss.take i).flatten ++ Ls.take j)) ∧ (∀ x, V.ref x ∈ us → x ≠ r ∧ x ≠ b) ∧ us.length ≤ 10 * i + j)
      ⟨us, y4, rfl, sm, er, by rw [List.take_zero, List.append_nil]; exact lu, ur, by omega⟩ (fun j σ H' _ h => by obtain ⟨_, _, _, sm, _⟩ := h; exact sql (sm _ _ eq)) (fun j v σ H3 hv3 h => ?_) (fun σ H3 h => ?_)⟩
    · clear lu ur ul er sm
      obtain ⟨us, y4, rfl, sm, er, lu, ur, ul⟩ := h
      have hj : j < Ls.length := by
        rw [← lq]
        exact (List.getElem?_eq_some_iff.mp hv3).1
      have hj' := List.getElem?_eq_getElem hj
      have tj : Ls.take (j + 1) = Ls.take j ++ [Ls[j]] := by rw [List.take_add_one, hj']; rfl
      have layb := aq j v _ hv3 hj'
      have lay0 := layD_low layb
      have pL := gi.2 _ (List.getElem_mem hj)
      have okP : ∀ M ∈ (pss.take i).flatten ++ Ls.take j, Pt M := fun M hM => by
        rcases List.mem_append.mp hM with z | z
        · obtain ⟨Ns, h1, h2⟩ := List.mem_flatten.mp z
          exact (good Ns (List.mem_of_mem_take h1)).2 M h2
        · exact gi.2 M (List.mem_of_mem_take z)
      have flt : pss.flatten = ((pss.take i).flatten ++ Ls.take j) ++ (Ls.drop j ++ (pss.drop (i + 1)).flatten) := by
        have := congrArg List.flatten split
        rw [List.flatten_append, List.flatten_cons] at this
        rw [this]
        simp only [List.append_assoc]
        rw [← List.append_assoc (Ls.take j), List.take_append_drop]
      have okR : ∀ M ∈ Ls.drop j ++ (pss.drop (i + 1)).flatten, M.ok = true := fun M hM => (okF M (by rw [flt]; exact List.mem_append_right _ hM)).1
      have att := (attOf_part _ _ okR fun M hM => (okP M hM).1).2
      rw [← flt] at att
      have mem : Ls[j] ∈ pss.flatten := by
        rw [flt]
        exact List.mem_append_right _ (List.mem_append_left _ (by rw [List.drop_eq_getElem_cons hj]; exact List.mem_cons_self))
      have cL := cnt_le (fun M hM => (okF M hM).1) mem
      obtain ⟨na, fa⟩ := due_ok okP
      have e1 := flatL_len _ _ rfl na.oks
      have e2 := flatL_len _ ((pss.take i).flatten ++ Ls.take j) rfl fun M hM => (okP M hM).1
      rw [fa] at e1
      have due1 : dueL ((pss.take i).flatten ++ Ls.take (j + 1)) = stepL (dueL ((pss.take i).flatten ++ Ls.take j)) Ls[j] := by
        unfold dueL
        rw [tj, ← List.append_assoc, List.foldl_append]
        rfl
      rw [due1]
      have j10 : j < 10 := by omega
      generalize Ls[j] = L at *
      generalize dueL ((pss.take i).flatten ++ Ls.take j) = acc at *
      have lay := lay0.same sm
      have xr : ∀ x, v = V.ref x → x ≠ r := fun x ex z => by
        obtain ⟨o, ho⟩ : ∃ o, H x = some o := by
          rw [ex] at lay0
          cases L with
          | pol ns => obtain ⟨y, e, w⟩ := lay0; cases e; exact ⟨_, w⟩
          | con a b => obtain ⟨y, e, w⟩ := lay0; cases e; exact ⟨_, w⟩
        rw [z, hr'] at ho
        cases ho
      have xb : ∀ x, v = V.ref x → x ≠ b := fun x ex => by
        rw [ex] at layb
        cases L with
        | pol ns => obtain ⟨y, e, w⟩ := layb; cases e; exact (hid_get w).2.1
        | con a c => obtain ⟨y, e, w⟩ := layb; cases e; exact (hid_get w).2.1
      have app : ∀ (x : Addr) (H4 : Hp) (z4 : Option V), v = .ref x → Same H3 H4 → stepL acc L = acc ++ [L] → ∃ us' y4', [some (V.ref p), some (.ref r), some lv, some (.ref pa), z4] = [some (.ref p), some (.ref r), some lv, some (.ref pa), y4'] ∧ Same H (upd H4 r (.lst (us ++ [.ref x]))) ∧ upd H4 r (.lst (us ++ [.ref x])) r = some (.lst us') ∧ Lays (upd H4 r (.lst (us ++ [.ref x]))) us' (stepL acc L) ∧ (∀ x, V.ref x ∈ us' → x ≠ r ∧ x ≠ b) ∧ us'.length ≤ 10 * i + (j + 1) := fun x H4 z4 ex s4 es => by
        have nb : ∀ y, V.ref y ∈ us ++ [V.ref x] → y ≠ r ∧ y ≠ b := fun y hy => (List.mem_append.mp hy).elim (ur y) fun z => by
          have := List.mem_singleton.mp z
          injection this with this
          rw [this]
          exact ⟨xr x ex, xb x ex⟩
        refine ⟨us ++ [.ref x], z4, rfl, same_keep (sm.trans s4) hr', upd_same, ?_, nb, by rw [List.length_append]; exact Nat.succ_le_succ ul⟩
        rw [es]
        have l1 : Lays H3 [V.ref x] [L] := ⟨rfl, fun i v' M a b => by
          cases i with
          | zero => cases a; cases b; exact ex ▸ lay
          | succ i => cases a⟩
        exact ((lu.app l1).same s4).carry fun y o hy ho => by rw [upd_ne (nb y hy).1]; exact ho
      have szu : us.length < 100000 := by omega
      cases L with
      | pol ns =>
        obtain ⟨x, rfl, hx⟩ := lay
        have es : stepL acc (.pol ns) = acc ++ [.pol ns] := by
          show pushL acc (.pol ns) = _
          rcases push_cases acc (.pol ns) with ⟨A, w, n, m, _, e, _⟩ | ⟨e, _⟩
          · cases e
          · exact e
        exact ⟨_, rfl, _, _, _, _, true, rfl, .ty "list", .base (.lst hx), kit_ty (by decide +kernel), true, rfl, iteT ⟨_, rfl, .inl ⟨rfl, _, sql er⟩, _, rfl, r, _, _, rfl, rfl, er, size_lt szu, app x H3 _ rfl (Same.refl _) es⟩⟩
      | con wt n =>
        obtain ⟨x, rfl, hx⟩ := lay
        refine ⟨_, rfl, _, _, _, _, false, rfl, .ty "list", .base (.tup hx), kit_ty (by decide +kernel), false, rfl, iteF ?_⟩
        by_cases n1 : 1 < n
        · have sp : stepL acc (.con wt n) = pushL acc (.con wt n) := by
            unfold stepL
            dsimp only
            rw [if_pos n1]
          refine ⟨_, rfl, x, _, 1, _, rfl, rfl, sqt hx, rfl, _, _, rfl, rfl, _, rfl, ite2 (fun _ => ?_) (fun e => absurd (decide_eq_true n1) e)⟩
          refine ⟨_, rfl, Nat.zero_le _, fun o ho => ?_⟩
          have so := same_new (o := .lst []) ho
          have eo := upd_same (H := H3) (a := o) (o := .lst [])
          generalize upd H3 o (.lst []) = H4 at *
          have er4 := so _ _ er
          have lu4 := lu.same so
          have hx4 := so _ _ hx
          refine ⟨_, _, dp_nest (lu4.nest er4), .lst (sql eo) .nil, shaped_lays _, by decide +kernel, _, rfl, ?_⟩
          rcases push_cases acc (.con wt n) with ⟨A, w, m, m', eA, eL, eP⟩ | ⟨eP, neP⟩
          · injection eL with eL1 eL2
            subst eL1
            subst eL2
            subst eA
            obtain ⟨vs, u, rfl⟩ : ∃ vs u, us = vs ++ [u] := ⟨us.dropLast, us.getLast (fun z => by
              have := lu.1
              rw [z, List.length_append] at this
              exact absurd this (by simp)), (List.dropLast_concat_getLast _).symm⟩
            have lvs : vs.length = A.length := by
              have := lu.1
              rw [List.length_append, List.length_append] at this
              exact Nat.add_right_cancel this
            have lB : LayAt H4 u (.con wt m) := lu4.2 vs.length u _ (by rw [List.getElem?_append_right (Nat.le_refl _), Nat.sub_self]; rfl) (by rw [lvs, List.getElem?_append_right (Nat.le_refl _), Nat.sub_self]; rfl)
            obtain ⟨z, rfl, hz⟩ := lB
            have z1 : (!PyData.eqv (.list ((A ++ [Lay.con wt m]).map Lay.dat)) (.list [])) = true := by
              rcases A with _ | ⟨B, A'⟩ <;> rfl
            rw [z1]
            refine iteT ?_
            refine ⟨_, rfl, _, rfl, r, _, _, _, rfl, rfl, sql er4, atI_last _ _, _, _, _, _, true, rfl, .ty "tuple", .base (.tup hz), kit_ty (by decide +kernel), true, rfl, iteT ?_⟩
            refine ⟨_, rfl, _, rfl, r, _, _, _, rfl, rfl, sql er4, atI_last _ _, z, _, 0, _, rfl, rfl, sqt hz, rfl, _, rfl, x, _, 0, _, rfl, rfl, sqt hx4, rfl, rfl, _, rfl, int_eqD (fun _ => ?_) (fun e => absurd rfl e)⟩
            refine ⟨_, rfl, x, _, 0, _, rfl, rfl, sqt hx4, rfl, _, rfl, _, rfl, r, _, _, _, rfl, rfl, sql er4, atI_last _ _, z, _, 1, _, rfl, rfl, sqt hz, rfl, _, rfl, x, _, 1, _, rfl, rfl, sqt hx4, rfl, _, _, rfl, rfl, ?_, size_le (by show 2 ≤ 100000; decide), fun tt htt => ?_⟩
            · have cm := cnt_le na.oks (show Lay.con wt m ∈ A ++ [Lay.con wt m] from List.mem_append_right _ List.mem_cons_self)
              have c0 : (Lay.con wt m).cnt = m := rfl
              have c1 : (Lay.con wt n).cnt = n := rfl
              have m1 := LayAt.con_pos (na.oks _ (show Lay.con wt m ∈ A ++ [Lay.con wt m] from List.mem_append_right _ List.mem_cons_self))
              rw [c0] at cm m1
              rw [c1] at cL
              have b1 : m.natAbs < 2 ^ 1000 := Nat.lt_of_le_of_lt (by omega) big
              have b2 : n.natAbs < 2 ^ 1000 := Nat.lt_of_le_of_lt (by omega) big
              exact wide_mul (a := 1000) (b := 1000) b1 b2 (by decide) (by decide) (by decide)
            · have st := same_new (o := .tup [.int wt, .int (m * n)]) htt
              have ett := upd_same (H := H4) (a := tt) (o := .tup [.int wt, .int (m * n)])
              have tr : tt ≠ r ∧ tt ≠ b := ⟨fun y => (by rw [y, er4] at htt; cases htt), fun y => (by rw [y, so _ _ (sm _ _ hb)] at htt; cases htt)⟩
              generalize upd H4 tt (.tup [.int wt, .int (m * n)]) = H5 at *
              have s35 := so.trans st
              refine ⟨_, rfl, _, rfl, r, _, -1, _, rfl, rfl, st _ _ er4, ixN_last (by rw [List.length_append]; exact Nat.succ_pos _), ?_⟩
              rw [set_last]
              have nb : ∀ y, V.ref y ∈ vs ++ [V.ref tt] → y ≠ r ∧ y ≠ b := fun y hy => (List.mem_append.mp hy).elim (fun w => ur y (List.mem_append_left _ w)) fun w => by
                have := List.mem_singleton.mp w
                injection this with this
                rw [this]
                exact tr
              have lA : Lays H5 vs A := ⟨lvs, fun i' v' M a b => ((lu.same s35).2 i' v' M (by rw [List.getElem?_append_left (List.getElem?_eq_some_iff.mp a).1]; exact a) (by rw [List.getElem?_append_left (List.getElem?_eq_some_iff.mp b).1]; exact b))⟩
              have l1 : Lays H5 [V.ref tt] [.con wt (m * n)] := ⟨rfl, fun i' v' M a b => by
                cases i' with
                | zero => cases a; cases b; exact ⟨tt, rfl, ett⟩
                | succ i' => cases a⟩
              refine ⟨vs ++ [.ref tt], _, rfl, same_keep (sm.trans s35) hr', upd_same, ?_, nb, ?_⟩
              · rw [sp, eP]
                exact (lA.app l1).carry fun y o hy ho => by rw [upd_ne (nb y hy).1]; exact ho
              · rw [List.length_append] at ul ⊢
                exact Nat.le_succ_of_le ul
          · have es : stepL acc (.con wt n) = acc ++ [.con wt n] := by rw [sp]; exact eP
            rcases List.eq_nil_or_concat acc with ea | ⟨A, B, ea⟩
            · have z1 : (!PyData.eqv (.list (acc.map Lay.dat)) (.list [])) = false := by rw [ea]; rfl
              rw [z1]
              refine iteF ?_
              refine ⟨_, rfl, x, _, 1, _, rfl, rfl, sqt hx4, rfl, _, _, rfl, rfl, _, rfl, ite2 (fun _ => ?_) (fun e => absurd (decide_eq_true n1) e)⟩
              exact ⟨_, rfl, .inl ⟨rfl, _, sql er4⟩, _, rfl, r, _, _, rfl, rfl, er4, size_lt szu, app x H4 _ rfl so es⟩
            · rw [List.concat_eq_append] at ea
              have z1 : (!PyData.eqv (.list (acc.map Lay.dat)) (.list [])) = true := by
                rw [ea]
                rcases A with _ | ⟨B', A'⟩ <;> rfl
              rw [z1]
              refine iteT ?_
              obtain ⟨vs, u, eu⟩ : ∃ vs u, us = vs ++ [u] := ⟨us.dropLast, us.getLast (fun z => by
                have := lu.1
                rw [z, ea, List.length_append] at this
                exact absurd this (by simp)), (List.dropLast_concat_getLast _).symm⟩
              have lvs : vs.length = A.length := by
                have := lu.1
                rw [ea, eu, List.length_append, List.length_append] at this
                exact Nat.add_right_cancel this
              have lB : LayAt H4 u B := lu4.2 vs.length u _ (by rw [eu, List.getElem?_append_right (Nat.le_refl _), Nat.sub_self]; rfl) (by rw [lvs, ea, List.getElem?_append_right (Nat.le_refl _), Nat.sub_self]; rfl)
              have al : atI us (-1) = some u := by rw [eu]; exact atI_last _ _
              cases B with
              | pol ms =>
                obtain ⟨z, rfl, hz⟩ := lB
                refine ⟨_, rfl, _, rfl, r, _, _, _, rfl, rfl, sql er4, al, _, _, _, _, false, rfl, .ty "tuple", .base (.lst hz), kit_ty (by decide +kernel), false, rfl, iteF ?_⟩
                refine ⟨_, rfl, x, _, 1, _, rfl, rfl, sqt hx4, rfl, _, _, rfl, rfl, _, rfl, ite2 (fun _ => ?_) (fun e => absurd (decide_eq_true n1) e)⟩
                exact ⟨_, rfl, .inl ⟨rfl, _, sql er4⟩, _, rfl, r, _, _, rfl, rfl, er4, size_lt szu, app x H4 _ rfl so es⟩
              | con w m =>
                obtain ⟨z, rfl, hz⟩ := lB
                have wne := neP A w m wt n ea rfl
                refine ⟨_, rfl, _, rfl, r, _, _, _, rfl, rfl, sql er4, al, _, _, _, _, true, rfl, .ty "tuple", .base (.tup hz), kit_ty (by decide +kernel), true, rfl, iteT ?_⟩
                refine ⟨_, rfl, _, rfl, r, _, _, _, rfl, rfl, sql er4, al, z, _, 0, _, rfl, rfl, sqt hz, rfl, _, rfl, x, _, 0, _, rfl, rfl, sqt hx4, rfl, rfl, _, rfl, int_eqD (fun e => absurd e wne) (fun _ => ?_)⟩
                refine ⟨_, rfl, x, _, 1, _, rfl, rfl, sqt hx4, rfl, _, _, rfl, rfl, _, rfl, ite2 (fun _ => ?_) (fun e => absurd (decide_eq_true n1) e)⟩
                exact ⟨_, rfl, .inl ⟨rfl, _, sql er4⟩, _, rfl, r, _, _, rfl, rfl, er4, size_lt szu, app x H4 _ rfl so es⟩
        · have sp : stepL acc (.con wt n) = acc := by
            unfold stepL
            dsimp only
            rw [if_neg n1]
          refine ⟨_, rfl, x, _, 1, _, rfl, rfl, sqt hx, rfl, _, _, rfl, rfl, _, rfl, ite2 (fun e => absurd (of_decide_eq_true e) n1) (fun _ => ?_)⟩
          refine ⟨_, rfl, x, _, 1, _, rfl, rfl, sqt hx, rfl, _, _, rfl, rfl, _, rfl, ite2 (fun e => absurd (of_decide_eq_true e) n1) (fun _ => ?_)⟩
          exact ⟨us, _, rfl, sm, er, by rw [sp]; exact lu, ur, by omega⟩
    · obtain ⟨us, y4, rfl, sm, er, lu, ur, ul⟩ := h
      refine ⟨us, _, _, _, rfl, sm, er, ?_, ur, by omega⟩
      rw [tk, List.flatten_append, List.flatten_cons, List.flatten_nil, List.append_nil]
      rw [lq, List.take_length] at lu
      exact lu
  · obtain ⟨us, y2, y3, y4, rfl, sm, er, lu, ur, ul⟩ := h
    rw [hP.1, List.take_length] at lu
    have rb : r ≠ b := fun z => by rw [z, hb] at hr'; cases hr'
    exact ⟨_, rfl, q _ r sm hr' ((lu.carry fun x o hx ho => hid_at ho (ur x hx).2 (ur x hx).2).nest (hid_at er rb rb))⟩

end
end Rn
namespace Rn
open PySem PySem.Spec PyProof.Rows L2
section
variable {P : Program} {w : World} {K : PySem.W.Frag} {mg : Str → Option Value} {base : Heap}
theorem ifS_any {t : TT} {a b : TS} {D : Ends} {σ : L2.St} {H : Hp} (P : Bool → Prop) (G : Hp → Prop) (ht : ∀ Q : Bool → Hp → Prop, (∀ c H', G H' → P c → Q c H') → t σ H Q) (ha : ∀ H', G H' → P true → a D σ H') (hb : ∀ H', G H' → P false → b D σ H') : tIfS t a b D σ H :=
  ht _ fun c H' s p => by
    cases c
    · exact hb H' s p
    · exact ha H' s p
theorem int_eqJ {x y : Int} {A B : Prop} (h1 : x = y → A) (h2 : ¬ x = y → B) : if decide (V.int x = V.int y) = true then A else B := by
  split
  · rename_i e
    have e := of_decide_eq_true e
    injection e with e
    exact h1 e
  · rename_i e
    exact h2 fun z => e (decide_eq_true (by rw [z]))
theorem cut_but (xs : List V) : cutV xs none (some (-1)) = xs.take (xs.length - 1) := by
  unfold cutV
  rw [HT.sIx_none]
  have e : HT.sIx xs.length xs.length (some (-1)) = xs.length - 1 := by
    unfold HT.sIx
    simp
    omega
  rw [e]
  rfl
/-- a layer of the law -/
def Lbig (L : Lay) : Prop := L.ok = true ∧ match L with
  | .pol ns => 1 ≤ ns.length ∧ ns.length ≤ 60
  | .con _ n => n ≤ 100000000000000000000
def sp_law_changed (K : PySem.W.Frag) : Sp := fun vs H Q _ => ∃ (a : Addr) (n : Int) (v : V) (L : Lay), vs = [.ref a, v] ∧ Rng H a n ∧ n ≤ 10000000 ∧ LayAt (hid a a H) v L ∧ Lbig L ∧
  ∀ H' v' L', Rdv a 2 H H' → LayAt (hid a a H') v' L' → Lbig L' → L'.waits ≠ L.waits → Q v' H'
theorem ok_law_changed (T : Txt K mg) : FnOk P w K mg base CX0 2 T.f_law_changed T.d_law_changed ["rng", "layer"] (sp_law_changed K) := by
  have G_law_draw := (ok_law_draw (P := P) (w := w) (base := base) T)
  refine T.F_law_changed.ok sc_law_changed (fun vs H Q E h => ?_) (fun cdv A outer s H vs Q E hr h => ?_)
  · obtain ⟨a, n, v, L, rfl, _⟩ := h
    rfl
  obtain ⟨a, n, v, L, rfl, hS, hn, hL, big, q⟩ := h
  refine ⟨_, (pss_cons (ps_if (pt_val (pe_callB call_isi (by rfl) T.m_isinstance (by decide +kernel) (pa_cons (pv 1) (pa_cons (pe_bltn (v := .ty "list") (by rfl) T.m_list (by decide +kernel) rfl) pa_nil))))
      (pss_cons (ps_if (PW.pt (pw_or (pt_cmpR op_eq (pe_call G_law_draw hr (by rfl) T.g_law_draw T.F_law_draw.kp T.b_law_draw .nil pass0 (pa_cons (pv 0) (pa_cons pe_int pa_nil))) pe_int (nomark _)) (pw_or1 (pt_cmpR op_gt (pe_callB call_len_seq (by rfl) T.m_len PySem.boot_len (pa_cons (pv 1) pa_nil)) pe_int (nomark _)))))
      (pss_one (ps_ret (pe_op op_cat (pe_slice sl_list (pv 1) po_none (po_some (pe_un un_neg pe_int))) (pe_lst (pa_cons (pe_op op_add (pe_ix ix_list (pv 1) (pe_un un_neg pe_int) (fun _ _ => rfl)) pe_int) pa_nil)))))
      pss_nil)
      (pss_one (ps_ret (pe_op op_cat (pv 1) (pe_lst (pa_cons pe_int pa_nil))))))
      pss_nil)
      (pss_cons (ps_asg (pv 1) (pg_tup rfl (pgs_cons (pg_name (i := 2) sc_law_changed.nd rfl (Or.inl rfl)) (pgs_cons (pg_name (i := 3) sc_law_changed.nd rfl (Or.inl rfl)) pgs_nil))))
      (pss_cons (ps_if (PW.pt (pw_or (pt_cmpR op_eq (pv 3) pe_int (nomark _)) (pw_or1 (pt_cmpR op_eq (pe_call G_law_draw hr (by rfl) T.g_law_draw T.F_law_draw.kp T.b_law_draw .nil pass0 (pa_cons (pv 0) (pa_cons pe_int pa_nil))) pe_int (nomark _)))))
      (pss_one (ps_ret (pe_tup (pa_cons (pv 2) (pa_cons (pe_ifExp (pt_cmpR op_lt (pv 3) (pe_op op_sub (pe_op op_pow pe_int pe_int) pe_int) (nomark _)) (pe_op op_add (pv 3) pe_int) (pe_op op_sub (pv 3) pe_int)) pa_nil)))))
      pss_nil)
      (pss_one (ps_ret (pe_tup (pa_cons (pe_op op_add (pv 2) pe_int) (pa_cons (pv 3) pa_nil)))))))), ?_⟩
  cases L with
  | pol ks =>
    obtain ⟨x, rfl, hp0⟩ := hL
    have hp := (hid_get hp0).1
    obtain ⟨ok, k1, k60⟩ : (Lay.pol ks).ok = true ∧ 1 ≤ ks.length ∧ ks.length ≤ 60 := ⟨big.1, big.2⟩
    have kn : ∀ y ∈ ks, 0 ≤ y := fun y hy => by
      rw [Lay.ok_pol, List.all_eq_true] at ok
      exact of_decide_eq_true (ok y hy)
    obtain ⟨ms, m, rfl⟩ : ∃ ms m, ks = ms ++ [m] := ⟨ks.dropLast, ks.getLast (fun z => by rw [z] at k1; exact absurd k1 (by decide)), (List.dropLast_concat_getLast _).symm⟩
    have em : (ms ++ [m]).map V.int = ms.map V.int ++ [.int m] := by rw [List.map_append]; rfl
    rw [em] at hp hp0
    rw [List.length_append] at k60
    have k60 : ms.length + 1 ≤ 60 := k60
    refine ⟨_, rfl, _, _, _, _, true, rfl, .ty "list", .base (.lst hp), kit_ty (by decide +kernel), true, rfl, iteT ?_⟩
    refine ifS_any (fun c => c = false → ms.length + 1 ≤ 59) (fun H' => Rdv a 1 H H') (fun R h => ?_) (fun H1 A1 _ => ?_) (fun H1 A1 hP => ?_)
    · refine ⟨_, rfl, a, _, 2, rfl, hS, by omega, by decide, by decide, fun H1 r1 A1 _ _ => ⟨rfl, _, rfl, ite2 (fun _ => h true _ A1 (fun z => nomatch z)) (fun _ => ?_)⟩⟩
      refine ⟨_, rfl, x, _, rfl, .inl (sql (hid_get (A1.same _ _ hp0)).1), _, _, rfl, rfl, _, rfl, h _ _ A1 (fun e => ?_)⟩
      have e := of_decide_eq_false e
      rw [List.length_append, List.length_map] at e
      have e : ¬ (59 : Int) < ((ms.length + 1 : Nat) : Int) := e
      omega
    · have hp1 := (hid_get (A1.same _ _ hp0)).1
      have S1 := A1.src _ hS
      refine ⟨_, rfl, _, rfl, _, rfl, x, _, rfl, sql hp1, fun d hd => ?_⟩
      have ct : cutV (ms.map V.int ++ [V.int m]) none (some (-1)) = ms.map V.int := by
        rw [cut_but, List.length_append]
        exact List.take_left' (show (ms.map V.int).length = (ms.map V.int).length + 1 - 1 by omega)
      rw [ct]
      have s1 := same_new (o := .lst (ms.map V.int)) hd
      have e1 := upd_same (H := H1) (a := d) (o := .lst (ms.map V.int))
      generalize upd H1 d (.lst (ms.map V.int)) = H2 at *
      refine ⟨_, rfl, _, rfl, x, _, _, _, rfl, rfl, sql (s1 _ _ hp1), atI_last _ _, _, _, rfl, rfl, size_le (by show 1 ≤ 100000; decide), fun f hf => ?_⟩
      have s2 := same_new (o := .lst [.int (m + 1)]) hf
      have e2 := upd_same (H := H2) (a := f) (o := .lst [.int (m + 1)])
      generalize upd H2 f (.lst [.int (m + 1)]) = H3 at *
      refine ⟨d, f, _, _, rfl, rfl, s2 _ _ e1, e2, size_le (by rw [List.length_map]; show ms.length + 1 ≤ 100000; omega), fun z hz => ?_⟩
      have s3 := same_new (o := .lst (ms.map V.int ++ [.int (m + 1)])) hz
      have s13 := s1.trans (s2.trans s3)
      have za := S1.new1 ((s1.trans s2).free hz)
      have m0 := kn m (List.mem_append_right _ List.mem_cons_self)
      refine q _ (.ref z) (.pol (ms ++ [m + 1])) ((A1.trans (Rdv.of s13) (Int.le_refl _)).mono (by omega)) ⟨z, rfl, ?_⟩ ⟨?_, by rw [List.length_append]; exact Nat.succ_le_succ (Nat.zero_le _), by rw [List.length_append]; exact k60⟩ (fun e => ?_)
      · rw [List.map_append]
        exact hid_at upd_same za za
      · rw [Lay.ok_pol, List.all_eq_true]
        intro y hy
        rcases List.mem_append.mp hy with z | z
        · exact decide_eq_true (kn y (List.mem_append_left _ z))
        · rw [List.mem_singleton.mp z]
          exact decide_eq_true (by omega)
      · have e : ms ++ [m + 1] = ms ++ [m] := e
        have e := List.append_cancel_left e
        injection e with e
        omega
    · have l59 := hP rfl
      have hp1 := (hid_get (A1.same _ _ hp0)).1
      have S1 := A1.src _ hS
      refine ⟨_, rfl, size_le (by show 1 ≤ 100000; decide), fun f hf => ?_⟩
      have s2 := same_new (o := .lst [.int 7]) hf
      have e2 := upd_same (H := H1) (a := f) (o := .lst [.int 7])
      generalize upd H1 f (.lst [.int 7]) = H3 at *
      refine ⟨x, f, _, _, rfl, rfl, s2 _ _ hp1, e2, size_le (by rw [List.length_append, List.length_map]; show ms.length + 1 + 1 ≤ 100000; omega), fun z hz => ?_⟩
      have s3 := same_new (o := .lst ((ms.map V.int ++ [.int m]) ++ [.int 7])) hz
      have za := S1.new1 (s2.free hz)
      refine q _ (.ref z) (.pol ((ms ++ [m]) ++ [7])) ((A1.trans (Rdv.of (s2.trans s3)) (Int.le_refl _)).mono (by omega)) ⟨z, rfl, ?_⟩ ⟨?_, by rw [List.length_append]; exact Nat.succ_le_succ (Nat.zero_le _), by rw [List.length_append, List.length_append]; show ms.length + 1 + 1 ≤ 60; omega⟩ (fun e => ?_)
      · rw [List.map_append, em]
        exact hid_at upd_same za za
      · rw [Lay.ok_pol, List.all_eq_true]
        intro y hy
        rcases List.mem_append.mp hy with z | z
        · exact decide_eq_true (kn y z)
        · rw [List.mem_singleton.mp z]
          decide
      · have e : (ms ++ [m]) ++ [7] = ms ++ [m] := e
        have := congrArg List.length e
        rw [List.length_append] at this
        have : (ms ++ [m]).length + 1 = (ms ++ [m]).length := this
        omega
  | con wt k =>
    obtain ⟨x, rfl, hp0⟩ := hL
    have hp := (hid_get hp0).1
    obtain ⟨ok, kb⟩ : (Lay.con wt k).ok = true ∧ k ≤ 100000000000000000000 := ⟨big.1, big.2⟩
    have ok' := ok
    rw [Lay.ok_con, Bool.and_eq_true] at ok'
    have w0 := of_decide_eq_true ok'.1
    have k1 := of_decide_eq_true ok'.2
    refine ⟨_, rfl, _, _, _, _, false, rfl, .ty "list", .base (.tup hp), kit_ty (by decide +kernel), false, rfl, iteF ?_⟩
    refine ⟨_, rfl, x, _, rfl, sqt hp, rfl, _, _, rfl, _, _, rfl, rfl, ?_⟩
    have p20 : (10 : Int) ^ (20 : Int).toNat = 100000000000000000000 := by decide
    have con_ok : ∀ {w n : Int}, 0 ≤ w → 1 ≤ n → (Lay.con w n).ok = true := fun h1 h2 => by rw [Lay.ok_con, decide_eq_true h1, decide_eq_true h2]; rfl
    have con_len : ∀ {n : Int}, (n - 1).toNat ≠ (k - 1).toNat → (Lay.con wt n).waits ≠ (Lay.con wt k).waits := fun h e => by
      have e : List.replicate _ wt = List.replicate (k - 1).toNat wt := e
      have := congrArg List.length e
      rw [List.length_replicate, List.length_replicate] at this
      exact h this
    have fin_ : ∀ (G : Hp) (t : Addr) (L' : Lay), Rdv a 1 H G → G t = none → ∀ {w' k' : Int}, L' = .con w' k' → L'.ok = true → k' ≤ 100000000000000000000 → L'.waits ≠ (Lay.con wt k).waits → Q (.ref t) (upd G t (.tup [.int w', .int k'])) := fun G t L' A ht w' k' eL ok' kb' ne => by
      subst eL
      have ta := (A.src _ hS).new1 ht
      exact q _ (.ref t) (.con w' k') ((A.trans (Rdv.of (same_new ht)) (Int.le_refl _)).mono (by omega)) ⟨t, rfl, hid_at upd_same ta ta⟩ ⟨ok', kb'⟩ ne
    refine ⟨_, rfl, rfl, _, rfl, int_eqJ (fun e => ?_) (fun e => ?_)⟩
    · have A0 : Rdv a 1 H H := Rdv.refl.mono (by decide)
      refine ⟨_, rfl, _, rfl, _, _, rfl, rfl, ⟨by decide, by decide, by decide⟩, _, _, rfl, rfl, _, _, rfl, rfl, _, rfl, ite2 (fun e1 => ?_) (fun e1 => ?_)⟩
      · have e1 : k < (10 : Int) ^ (20 : Int).toNat - 1 := of_decide_eq_true e1
        refine ⟨_, rfl, _, _, rfl, rfl, size_le (by show 2 ≤ 100000; decide), fun t ht => ?_⟩
        exact fin_ H t (.con wt (k + 1)) A0 ht rfl (con_ok w0 (by omega)) (by show k + 1 ≤ _; omega) (con_len (by omega))
      · have e1 : ¬ k < (10 : Int) ^ (20 : Int).toNat - 1 := of_decide_eq_false (Bool.eq_false_iff.mpr e1)
        refine ⟨_, rfl, _, _, rfl, rfl, size_le (by show 2 ≤ 100000; decide), fun t ht => ?_⟩
        exact fin_ H t (.con wt (k - 1)) A0 ht rfl (con_ok w0 (by omega)) (by show k - 1 ≤ _; omega) (con_len (by omega))
    · refine ⟨_, rfl, a, _, 2, rfl, hS, by omega, by decide, by decide, fun H1 r1 A1 _ _ => ⟨rfl, _, rfl, ite2 (fun _ => ?_) (fun _ => ?_)⟩⟩
      · skip
        refine ⟨_, rfl, _, rfl, _, _, rfl, rfl, ⟨by decide, by decide, by decide⟩, _, _, rfl, rfl, _, _, rfl, rfl, _, rfl, ite2 (fun e1 => ?_) (fun e1 => ?_)⟩
        · have e1 : k < (10 : Int) ^ (20 : Int).toNat - 1 := of_decide_eq_true e1
          refine ⟨_, rfl, _, _, rfl, rfl, size_le (by show 2 ≤ 100000; decide), fun t ht => ?_⟩
          exact fin_ H1 t (.con wt (k + 1)) A1 ht rfl (con_ok w0 (by omega)) (by show k + 1 ≤ _; omega) (con_len (by omega))
        · have e1 : ¬ k < (10 : Int) ^ (20 : Int).toNat - 1 := of_decide_eq_false (Bool.eq_false_iff.mpr e1)
          refine ⟨_, rfl, _, _, rfl, rfl, size_le (by show 2 ≤ 100000; decide), fun t ht => ?_⟩
          exact fin_ H1 t (.con wt (k - 1)) A1 ht rfl (con_ok w0 (by omega)) (by show k - 1 ≤ _; omega) (con_len (by omega))
      · refine ⟨_, rfl, _, _, rfl, rfl, _, rfl, size_le (by show 2 ≤ 100000; decide), fun t ht => ?_⟩
        refine fin_ H1 t (.con (wt + 1) k) A1 ht rfl (con_ok (by omega) k1) kb (fun e2 => ?_)
        have e2 : List.replicate (k - 1).toNat (wt + 1) = List.replicate (k - 1).toNat wt := e2
        obtain ⟨m, hm⟩ : ∃ m, (k - 1).toNat = m + 1 := ⟨(k - 1).toNat - 1, by omega⟩
        rw [hm, List.replicate_succ, List.replicate_succ] at e2
        injection e2 with e2
        omega

end
end Rn
namespace Rn
open PySem PySem.Spec PyProof.Rows L2
section
variable {P : Program} {w : World} {K : PySem.W.Frag} {mg : Str → Option Value} {base : Heap}
/-- all waits are w, as many as the numbers of attempts say -/
theorem all_flat {w : Int} : ∀ {B : List Lay}, (∀ L ∈ B, L.ok = true ∧ ∃ m, L = .con w m) → ∀ z ∈ flatL B, z = w
  | [], _, z, hz => by cases hz
  | L :: B, h, z, hz => by
    rw [flatL_cons fun M hM => (h M hM).1] at hz
    rcases nestL_mem hz with q | q
    · obtain ⟨_, m, rfl⟩ := h L List.mem_cons_self
      exact List.eq_of_mem_replicate q
    · exact all_flat (fun M hM => h M (List.mem_cons_of_mem _ hM)) z q
theorem nest_same {w : Int} {xs ys : List Int} (hx : ∀ z ∈ xs, z = w) (hy : ∀ z ∈ ys, z = w) : nestL xs ys = nestL ys xs := by
  have l1 := nestL_len xs ys
  have l2 := nestL_len ys xs
  rw [Nat.mul_comm] at l2
  have a1 : nestL xs ys = List.replicate (nestL xs ys).length w := List.eq_replicate_of_mem fun z hz => (nestL_mem hz).elim (hx z) (hy z)
  have a2 : nestL ys xs = List.replicate (nestL ys xs).length w := List.eq_replicate_of_mem fun z hz => (nestL_mem hz).elim (hy z) (hx z)
  rw [a1, a2, show (nestL xs ys).length = (nestL ys xs).length by omega]
/-- a constant layer put before others of its wait -/
theorem flat_ins {A B : List Lay} {w n : Int} (hA : ∀ L ∈ A, L.ok = true) (hL : (Lay.con w n).ok = true) (hB : ∀ L ∈ B, L.ok = true ∧ ∃ m, L = .con w m) : flatL (A ++ .con w n :: B) = nestL (flatL (A ++ B)) (Lay.con w n).waits := by
  have oB : ∀ L ∈ B, L.ok = true := fun L h => (hB L h).1
  have oC : ∀ L ∈ Lay.con w n :: B, L.ok = true := fun L h => by
    rcases List.mem_cons.mp h with rfl | h
    · exact hL
    · exact oB L h
  rw [flat_app hA oC, flatL_cons oC, flat_app hA oB, nestL_assoc, show (Lay.con w n).waits = List.replicate (n - 1).toNat w from rfl, nest_same (w := w) (fun z hz => List.eq_of_mem_replicate hz) (all_flat hB)]
theorem int_neX {x y : Int} {A B : Prop} (h1 : x ≠ y → A) (h2 : x = y → B) : if (!decide (V.int x = V.int y)) = true then A else B := by
  by_cases e : x = y
  · subst e
    rw [decide_eq_true rfl]
    exact h2 rfl
  · rw [decide_eq_false fun z => e (V.int.inj z)]
    exact h1 e
def sp_law_sorted (K : PySem.W.Frag) : Sp := fun vs H Q _ => ∃ (p : Addr) (Ls : List Lay), vs = [.ref p] ∧ NestAt H p Ls ∧ Ls.length ≤ 20 ∧ (∀ L ∈ Ls, L.ok = true) ∧
  ∀ H' r Fs, Same H H' → H r = none → NestAt H' r Fs → Fs.Perm Ls → flatL Fs = flatL Ls → Q (.ref r) H'
theorem ok_law_sorted (T : Txt K mg) : FnOk P w K mg base CX0 1 T.f_law_sorted T.d_law_sorted ["layers"] (sp_law_sorted K) := by
  refine T.F_law_sorted.ok sc_law_sorted (fun vs H Q E h => ?_) (fun cdv A outer s H vs Q E hr h => ?_)
  · obtain ⟨p, Ls, rfl, _⟩ := h
    rfl
  obtain ⟨p, Ls, rfl, hN, l20, good, q⟩ := h
  obtain ⟨ps, hp, lp, ap⟩ := id hN
  refine ⟨_, (pss_cons (ps_set (i := 1) sc_law_sorted.nd rfl (Or.inl rfl) (pe_lst pa_nil))
      (pss_cons (ps_for PassesOwn.never rfl (pi_list (pv 0)) (pg_name (i := 2) sc_law_sorted.nd rfl (Or.inl rfl))
      (pss_cons (ps_set (i := 3) sc_law_sorted.nd rfl (Or.inl rfl) (pe_callB call_len_seq (by rfl) T.m_len PySem.boot_len (pa_cons (pv 1) pa_nil)))
      (pss_cons (ps_while PassesOwn.never (PW.pt (pw_and (pt_val (pe_callB call_isi (by rfl) T.m_isinstance (by decide +kernel) (pa_cons (pv 2) (pa_cons (pe_bltn (v := .ty "tuple") (by rfl) T.m_tuple (by decide +kernel) rfl) pa_nil)))) (pw_and (pt_cmpR op_gt (pv 3) pe_int (nomark _)) (pw_and (pt_val (pe_callB call_isi (by rfl) T.m_isinstance (by decide +kernel) (pa_cons (pe_ix ix_list (pv 1) (pe_op op_sub (pv 3) pe_int) (fun _ _ => rfl)) (pa_cons (pe_bltn (v := .ty "tuple") (by rfl) T.m_tuple (by decide +kernel) rfl) pa_nil)))) (pw_and1 (pt_cmpR (op_gtP hr.units) (pe_ix ix_list (pv 1) (pe_op op_sub (pv 3) pe_int) (fun _ _ => rfl)) (pv 2) (nomark _)))))))
      (pss_cons (ps_if (pt_cmpR op_ne (pe_ix ix_tup (pe_ix ix_list (pv 1) (pe_op op_sub (pv 3) pe_int) (fun _ _ => rfl)) pe_int (fun _ _ => rfl)) (pe_ix ix_tup (pv 2) pe_int (fun _ _ => rfl)) (nomark _))
      (pss_one ps_break)
      pss_nil)
      (pss_one (ps_set (i := 3) sc_law_sorted.nd rfl (Or.inl rfl) (pe_op op_sub (pv 3) pe_int)))))
      (pss_one (ps_expr (pe_bm PySem.F.plainAttrs_list PySem.F.slot_list_insert PySem.F.type_list_insert mt_insert (pv 1) (pa_cons (pv 3) (pa_cons (pv 2) pa_nil))))))))
      (pss_one (ps_ret (pv 1))))), ?_⟩
  refine ⟨Nat.zero_le _, fun r hr' => ?_⟩
  have sr := same_new (o := .lst []) hr'
  refine ⟨_, rfl, p, rfl, ⟨_, sql (sr _ _ hp)⟩, for_list (xs := ps) (fun i σ H' => ∃ us Fs y2 y3, σ = [some (.ref p), some (.ref r), y2, y3] ∧ Same H H' ∧ H' r = some (.lst us) ∧ Lays H' us Fs ∧ (∀ x, V.ref x ∈ us → x ≠ r) ∧ us.length = i ∧ Fs.Perm (Ls.take i) ∧ flatL Fs = flatL (Ls.take i))
    ⟨[], [], none, none, rfl, sr, upd_same, ⟨rfl, fun i v L a => by cases a⟩, (fun _ z => nomatch z), rfl, .nil, rfl⟩ (fun i σ H' _ h => by obtain ⟨_, _, _, _, _, sm, _⟩ := h; exact sql (sm _ _ hp)) (fun i v σ H2 hv h => ?_) (fun σ H2 h => ?_)⟩
  · obtain ⟨us, Fs, y2, y3, rfl, sm, er, lu, ur, ul, pm, fl⟩ := h
    have hi : i < Ls.length := by
      rw [← lp]
      exact (List.getElem?_eq_some_iff.mp hv).1
    have hi' := List.getElem?_eq_getElem hi
    have lay0 := ap i v _ hv hi'
    have tk : Ls.take (i + 1) = Ls.take i ++ [Ls[i]] := by rw [List.take_add_one, hi']; rfl
    have okL := good _ (List.getElem_mem hi)
    generalize Ls[i] = L at *
    have okF : ∀ M ∈ Fs, M.ok = true := fun M hM => good M (List.mem_of_mem_take (pm.mem_iff.mp hM))
    have okT : ∀ M ∈ Ls.take i, M.ok = true := fun M hM => good M (List.mem_of_mem_take hM)
    have lay := lay0.same sm
    have xr : ∀ x, v = V.ref x → x ≠ r := fun x ex z => by
      obtain ⟨o, ho⟩ : ∃ o, H x = some o := by
        rw [ex] at lay0
        cases L with
        | pol ns => obtain ⟨y, e, w⟩ := lay0; cases e; exact ⟨_, w⟩
        | con a b => obtain ⟨y, e, w⟩ := lay0; cases e; exact ⟨_, w⟩
      rw [z, hr'] at ho
      cases ho
    have l20' : us.length < 20 := by omega
    have fin : ∀ b : Nat, b ≤ us.length → (∀ M ∈ Fs.drop b, ∃ w n m, L = .con w n ∧ M = .con w m) → ∃ us' Fs' y2' y3', [some (.ref p), some (.ref r), some v, some (V.int (b : Nat))] = [some (.ref p), some (.ref r), y2', y3'] ∧ Same H (upd H2 r (.lst (us.take b ++ [v] ++ us.drop b))) ∧ upd H2 r (.lst (us.take b ++ [v] ++ us.drop b)) r = some (.lst us') ∧ Lays (upd H2 r (.lst (us.take b ++ [v] ++ us.drop b))) us' Fs' ∧ (∀ x, V.ref x ∈ us' → x ≠ r) ∧ us'.length = i + 1 ∧ Fs'.Perm (Ls.take (i + 1)) ∧ flatL Fs' = flatL (Ls.take (i + 1)) := fun b hb hd => by
      have nb : ∀ y, V.ref y ∈ us.take b ++ [v] ++ us.drop b → y ≠ r := fun y hy => by
        rcases List.mem_append.mp hy with z | z
        · rcases List.mem_append.mp z with z | z
          · exact ur y (List.mem_of_mem_take z)
          · exact xr y (List.mem_singleton.mp z).symm
        · exact ur y (List.mem_of_mem_drop z)
      have l1 : Lays H2 [v] [L] := ⟨rfl, fun i' v' M a b => by
        cases i' with
        | zero => cases a; cases b; exact lay
        | succ i' => cases a⟩
      refine ⟨_, Fs.take b ++ [L] ++ Fs.drop b, _, _, rfl, same_keep sm hr', upd_same, ?_, nb, ?_, ?_, ?_⟩
      · exact (((lu.take b).app l1).app (lu.drop b)).carry fun y o hy ho => by rw [upd_ne (nb y hy)]; exact ho
      · rw [List.length_append, List.length_append, List.length_take, List.length_drop, List.length_singleton]
        omega
      · rw [tk, List.append_assoc]
        refine List.Perm.trans List.perm_middle (List.Perm.trans ?_ (List.perm_append_singleton L (Ls.take i)).symm)
        show (L :: (Fs.take b ++ Fs.drop b)).Perm _
        rw [List.take_append_drop]
        exact pm.cons L
      · rw [tk, flatF okT L okL, ← fl, List.append_assoc]
        have okA : ∀ M ∈ Fs.take b, M.ok = true := fun M hM => okF M (List.mem_of_mem_take hM)
        cases L with
        | pol ns =>
          have e : Fs.drop b = [] := by
            rcases hF : Fs.drop b with _ | ⟨M, Ms⟩
            · rfl
            · obtain ⟨_, _, _, z, _⟩ := hd M (by rw [hF]; exact List.mem_cons_self)
              cases z
          have e2 : Fs.take b = Fs := by
            have := List.take_append_drop b Fs
            rw [e, List.append_nil] at this
            exact this
          rw [e, e2]
          exact flatF okF _ okL
        | con wt n =>
          have := flat_ins okA okL (B := Fs.drop b) fun M hM => ⟨okF M (List.mem_of_mem_drop hM), by
            obtain ⟨_, _, m, z, z2⟩ := hd M hM
            injection z with z _
            rw [z]
            exact ⟨m, z2⟩⟩
          rw [List.take_append_drop] at this
          exact this
    refine ⟨_, rfl, r, _, rfl, .inl (sql er), ?_⟩
    change tWhile _ _ _ _ _
    refine ⟨fun a σ H' => σ = [some (.ref p), some (.ref r), some v, some (.int (a : Nat))] ∧ H' = H2 ∧ a ≤ us.length ∧ ∀ M ∈ Fs.drop a, ∃ w n m, L = .con w n ∧ M = .con w m,
      ⟨us.length, rfl, rfl, Nat.le_refl _, fun M hM => by rw [lu.1, List.drop_length] at hM; cases hM⟩, fun a σ H' h => ?_⟩
    obtain ⟨rfl, rfl, al, hd⟩ := h
    dsimp only
    cases L with
    | pol ns =>
      obtain ⟨x, rfl, hx⟩ := lay
      refine ⟨_, rfl, _, _, _, _, false, rfl, .ty "tuple", .base (.lst hx), kit_ty (by decide +kernel), false, rfl, iteF (iteF ?_)⟩
      exact ⟨_, rfl, .inl ⟨rfl, _, sql er⟩, _, rfl, _, rfl, r, us, _, _, rfl, rfl, er, size_lt (by omega), by omega, by omega, fin a al hd⟩
    | con wt n =>
      obtain ⟨x, rfl, hx⟩ := lay
      refine ⟨_, rfl, _, _, _, _, true, rfl, .ty "tuple", .base (.tup hx), kit_ty (by decide +kernel), true, rfl, iteT ?_⟩
      refine ⟨_, rfl, _, _, rfl, rfl, ?_⟩
      by_cases a0 : 0 < a
      · have a1 : a - 1 < us.length := by omega
        have ga := List.getElem?_eq_getElem a1
        have a1' : a - 1 < Fs.length := by rw [← lu.1]; exact a1
        have gF := List.getElem?_eq_getElem a1'
        have layF := lu.2 _ _ _ ga gF
        have at1 : atI us ((a : Int) - 1) = some us[a - 1] := by
          rw [show (a : Int) - 1 = ((a - 1 : Nat) : Int) by omega]
          exact atI_nat (j := a - 1) ga
        have dF : Fs.drop (a - 1) = Fs[a - 1] :: Fs.drop a := by
          rw [List.drop_eq_getElem_cons a1', show a - 1 + 1 = a by omega]
        generalize us[a - 1] = u at *
        generalize Fs[a - 1] = F at *
        refine ⟨_, rfl, ite2 (fun _ => ?_) (fun e => absurd (decide_eq_true (by omega)) e)⟩
        cases F with
        | pol ms =>
          obtain ⟨z, rfl, hz⟩ := layF
          refine ⟨_, rfl, _, rfl, _, _, rfl, rfl, r, _, _, _, rfl, rfl, sql er, at1, _, _, _, _, false, rfl, .ty "tuple", .base (.lst hz), kit_ty (by decide +kernel), false, rfl, iteF (iteF ?_)⟩
          exact ⟨_, rfl, .inl ⟨rfl, _, sql er⟩, _, rfl, _, rfl, r, us, _, _, rfl, rfl, er, size_lt (by omega), by omega, by omega, fin a al hd⟩
        | con wf m =>
          obtain ⟨z, rfl, hz⟩ := layF
          refine ⟨_, rfl, _, rfl, _, _, rfl, rfl, r, _, _, _, rfl, rfl, sql er, at1, _, _, _, _, true, rfl, .ty "tuple", .base (.tup hz), kit_ty (by decide +kernel), true, rfl, iteT ?_⟩
          refine ⟨_, rfl, _, rfl, _, _, rfl, rfl, r, _, _, _, rfl, rfl, sql er, at1, _, rfl, z, x, _, _, _, _, rfl, rfl, sqt hz, sqt hx, _, rfl, ite2 (fun _ => ?_) (fun _ => ?_)⟩
          · refine ⟨fun σ' G => σ' = [some (.ref p), some (.ref r), some (.ref x), some (.int ((a - 1 : Nat) : Int))] ∧ G = H' ∧ wf = wt, ?_, ?_⟩
            · rintro σ' G ⟨rfl, rfl, rfl⟩
              exact ⟨a - 1, by omega, rfl, rfl, by omega, fun M hM => by
                rw [dF] at hM
                rcases List.mem_cons.mp hM with rfl | hM
                · exact ⟨_, _, _, rfl, rfl⟩
                · exact hd M hM⟩
            · refine ⟨_, rfl, _, rfl, _, _, rfl, rfl, r, _, _, _, rfl, rfl, sql er, at1, z, _, 0, _, rfl, rfl, sqt hz, rfl, _, rfl, x, _, 0, _, rfl, rfl, sqt hx, rfl, rfl, _, rfl, int_neX (fun _ => ?_) (fun e => ?_)⟩
              · exact ⟨_, rfl, .inl ⟨rfl, _, sql er⟩, _, rfl, _, rfl, r, us, _, _, rfl, rfl, er, size_lt (by omega), by omega, by omega, fin a al hd⟩
              · refine ⟨_, rfl, _, _, rfl, rfl, ?_⟩
                have ea : (a : Int) - 1 = ((a - 1 : Nat) : Int) := by omega
                exact ⟨by rw [← ea]; rfl, rfl, e⟩
          · exact ⟨_, rfl, .inl ⟨rfl, _, sql er⟩, _, rfl, _, rfl, r, us, _, _, rfl, rfl, er, size_lt (by omega), by omega, by omega, fin a al hd⟩
      · refine ⟨_, rfl, ite2 (fun e => absurd (of_decide_eq_true e) (by omega)) (fun _ => iteF ?_)⟩
        exact ⟨_, rfl, .inl ⟨rfl, _, sql er⟩, _, rfl, _, rfl, r, us, _, _, rfl, rfl, er, size_lt (by omega), by omega, by omega, fin a al hd⟩
  · obtain ⟨us, Fs, y2, y3, rfl, sm, er, lu, ur, ul, pm, fl⟩ := h
    rw [lp, List.take_length] at pm fl
    exact ⟨_, rfl, q H2 r Fs sm hr' (lu.nest er) pm fl⟩

end
end Rn
namespace Rn
open PySem PySem.Spec PyProof.Rows L2
section
variable {P : Program} {w : World} {K : PySem.W.Frag} {mg : Str → Option Value} {base : Heap}
theorem nest_two {xs ys : List Int} (hx : 0 < xs.length) (hy : 0 < ys.length) : unsB (nestL xs ys) = false := by
  rw [Bool.eq_false_iff]
  intro h
  have u := uns_iff.mp h
  have l := nestL_len xs ys
  have m : (xs.length + 1) * 2 ≤ (xs.length + 1) * (ys.length + 1) := Nat.mul_le_mul_left _ (by omega)
  have f := u.2 (xs.length + 1) (by omega) (by omega)
  rw [per_iff.mpr (per_nest xs ys)] at f
  cases f
theorem flat_two {Ls : List Lay} {L M : Lay} (h : ∀ N ∈ L :: M :: Ls, N.ok = true) (hL : 0 < L.waits.length) (hM : 0 < M.waits.length) : unsB (flatL (L :: M :: Ls)) = false := by
  have h1 : ∀ N ∈ M :: Ls, N.ok = true := fun N hN => h N (List.mem_cons_of_mem _ hN)
  rw [flatL_cons h]
  refine nest_two hL ?_
  rw [flatL_cons h1]
  have l := nestL_len M.waits (flatL Ls)
  have m : M.waits.length + 1 ≤ (M.waits.length + 1) * ((flatL Ls).length + 1) := Nat.le_mul_of_pos_right _ (by omega)
  omega
/-- the list of a nesting as the only layer -/
theorem flat_row {Ls : List Lay} (hr : (Lay.pol (flatL Ls)).ok = true) : flatL [.pol (flatL Ls)] = flatL Ls := by
  rw [flatL_cons (fun M hM => by rw [List.mem_singleton.mp hM]; exact hr)]
  exact nestL_nil _
theorem lays_erase {G : Hp} {us : List V} {Ls : List Lay} (h : Lays G us Ls) (k : Nat) : Lays G (us.eraseIdx k) (Ls.eraseIdx k) := by
  refine ⟨by rw [List.length_eraseIdx, List.length_eraseIdx, h.1], fun i v L a b => ?_⟩
  rw [List.getElem?_eraseIdx] at a b
  by_cases c : i < k
  · rw [if_pos c] at a b
    exact h.2 i v L a b
  · rw [if_neg c] at a b
    exact h.2 _ v L a b
theorem pop_perm {α : Type} : ∀ {l : List α} {k : Nat} {x : α}, l[k]? = some x → (x :: l.eraseIdx k).Perm l
  | [], k, x, h => by cases h
  | y :: l, 0, x, h => by cases h; exact .refl _
  | y :: l, k + 1, x, h => (List.Perm.swap y x _).trans ((pop_perm (l := l) (k := k) (x := x) h).cons y)
theorem att_ten : ∀ (Ls : List Lay) (t : Int), 0 ≤ t → (∀ L ∈ Ls, 1 ≤ L.cnt ∧ L.cnt ≤ 10) → Ls.foldl (fun t L => t * L.cnt) t ≤ t * 10 ^ Ls.length
  | [], t, _, _ => by show t ≤ t * 1; omega
  | L :: Ls, t, h, hb => by
    obtain ⟨b1, b2⟩ := hb L List.mem_cons_self
    have t1 : 0 ≤ t * L.cnt := Int.mul_nonneg h (by omega)
    have ih := att_ten Ls (t * L.cnt) t1 fun M hM => hb M (List.mem_cons_of_mem _ hM)
    have p0 : (0 : Int) ≤ 10 ^ Ls.length := Int.pow_nonneg (by decide)
    have a1 : t * L.cnt ≤ t * 10 := Int.mul_le_mul_of_nonneg_left b2 h
    have a2 := Int.mul_le_mul_of_nonneg_right a1 p0
    have e : t * 10 ^ (L :: Ls).length = t * 10 * 10 ^ Ls.length := by
      rw [List.length_cons, Int.pow_succ, Int.mul_assoc, Int.mul_comm (10 ^ Ls.length) 10]
    rw [e]
    exact Int.le_trans ih a2
/-- a layer of the nestings drawn here -/
def L10 (L : Lay) : Prop := L.ok = true ∧ 0 < L.waits.length ∧ L.cnt ≤ 10
theorem L10_con {w n : Int} (h0 : 0 ≤ w) (h1 : 2 ≤ n) (h2 : n ≤ 10) : L10 (.con w n) := by
  refine ⟨by rw [Lay.ok_con, decide_eq_true h0, decide_eq_true (by omega)]; rfl, ?_, h2⟩
  show 0 < (List.replicate (n - 1).toNat w).length
  rw [List.length_replicate]
  omega
/-- the nestings -/
def Gn (Ls : List Lay) : Prop := (∀ L ∈ Ls, L.ok = true) ∧ unsB (flatL Ls) = false ∧ attOf Ls ≤ 10000 ∧ Ls.length ≤ 10
theorem nest_lowF {a d p : Addr} {G : Hp} {Ls : List Lay} (h : NestAt (hid a d G) p Ls) : NestAt G p Ls := by
  obtain ⟨vs, h1, h2, h3⟩ := h
  exact (Lays.carry ⟨h2, h3⟩ fun x o _ e => (hid_get e).1).nest (hid_get h1).1
theorem gn4 {Ls : List Lay} (h : ∀ L ∈ Ls, L10 L) (l : Ls.length = 4) : Gn Ls := by
  match Ls, l with
  | [A, B, C, E], _ =>
    have ok : ∀ L ∈ [A, B, C, E], L.ok = true := fun L hL => (h L hL).1
    refine ⟨ok, flat_two ok (h A List.mem_cons_self).2.1 (h B (List.mem_cons_of_mem _ List.mem_cons_self)).2.1, ?_, by show 4 ≤ 10; decide⟩
    have := att_ten [A, B, C, E] 1 (by decide) fun L hL => by
      obtain ⟨h1, h2, h3⟩ := h L hL
      have := waits_len h1
      exact ⟨by omega, h3⟩
    exact this
theorem gn2 {ws : List Int} {w n : Int} (h0 : 0 ≤ w) (h1 : 2 ≤ n) (h2 : n ≤ 40) (hw : Sng ws) : Gn [.pol ws, .con w n] := by
  obtain ⟨_, _, l60, l2, hx⟩ := hw
  have o1 : (Lay.pol ws).ok = true := pol_ok hx
  have o2 : (Lay.con w n).ok = true := by rw [Lay.ok_con, decide_eq_true h0, decide_eq_true (by omega)]; rfl
  have ok : ∀ L ∈ [Lay.pol ws, .con w n], L.ok = true := fun L hL => by
    simp only [List.mem_cons, List.not_mem_nil, or_false] at hL
    rcases hL with rfl | rfl
    · exact o1
    · exact o2
  refine ⟨ok, flat_two ok (show 0 < ws.length by omega) ?_, ?_, by show 2 ≤ 10; decide⟩
  · show 0 < (List.replicate (n - 1).toNat w).length
    rw [List.length_replicate]
    omega
  · show 1 * ((ws.length : Int) + 1) * n ≤ 10000
    rw [Int.one_mul]
    have a1 : ((ws.length : Int) + 1) * n ≤ 61 * 40 := Int.mul_le_mul (by omega) h2 (by omega) (by decide)
    omega
def sp_law_flat_right (K : PySem.W.Frag) : Sp := fun vs H Q _ => ∃ (a : Addr) (n : Int), vs = [.ref a] ∧ Rng H a n ∧ n ≤ 1000000 ∧ ∀ H', Rdv a 300 H H' → Q (.bl true) H'
theorem ok_law_flat_right (T : Txt K mg) : FnOk P w K mg base CX0 8 T.f_law_flat_right T.d_law_flat_right ["rng"] (sp_law_flat_right K) := by
  have G_law_draw := (ok_law_draw (P := P) (w := w) (base := base) T).mono (by decide : 1 ≤ 7)
  have G_law_single := (ok_law_single (P := P) (w := w) (base := base) T).mono (by decide : 2 ≤ 7)
  have G_flatten := (ok_flatten (P := P) (w := w) (base := base) T).mono (by decide : 5 ≤ 7)
  have G_normal_form := (ok_normal_form (P := P) (w := w) (base := base) T).mono (by decide : 6 ≤ 7)
  have G_same_policy := (ok_same_policy (P := P) (w := w) (base := base) T)
  have G_is_unsplittable := (ok_is_unsplittable (P := P) (w := w) (base := base) T).mono (by decide : 4 ≤ 7)
  refine T.F_law_flat_right.ok sc_law_flat_right (fun vs H Q E h => ?_) (fun cdv A outer s H vs Q E hr h => ?_)
  · obtain ⟨a, n, rfl, _⟩ := h
    rfl
  obtain ⟨a, n, rfl, hS, hn, q⟩ := h
  refine ⟨_, (pss_cons (ps_set (i := 1) sc_law_flat_right.nd rfl (Or.inr rfl) (pe_lst (pa_cons (pe_tup (pa_cons (pe_call G_law_draw hr (by rfl) T.g_law_draw T.F_law_draw.kp T.b_law_draw .nil pass0 (pa_cons (pv 0) (pa_cons pe_int pa_nil))) (pa_cons (pe_op op_add pe_int (pe_call G_law_draw hr (by rfl) T.g_law_draw T.F_law_draw.kp T.b_law_draw .nil pass0 (pa_cons (pv 0) (pa_cons pe_int pa_nil)))) pa_nil))) (pa_cons (pe_slice sl_list (pe_lst (pa_cons pe_int (pa_cons pe_int (pa_cons pe_int pa_nil)))) po_none (po_some (pe_op op_add pe_int (pe_call G_law_draw hr (by rfl) T.g_law_draw T.F_law_draw.kp T.b_law_draw .nil pass0 (pa_cons (pv 0) (pa_cons pe_int pa_nil)))))) (pa_cons (pe_tup (pa_cons pe_int (pa_cons (pe_op op_add pe_int (pe_call G_law_draw hr (by rfl) T.g_law_draw T.F_law_draw.kp T.b_law_draw .nil pass0 (pa_cons (pv 0) (pa_cons pe_int pa_nil)))) pa_nil))) pa_nil)))))
      (pss_cons (ps_set (i := 1) sc_law_flat_right.nd rfl (Or.inr rfl) (pe_lc (own := [("turn", 4)]) (g := gName 4) (tt := tYes) rfl sc_law_flat_right.nd (pi_range1 (by rfl) T.m_range (pa_cons pe_int pa_nil)) (blkOk_by (N := ["rng", "layers", "nesting", "long_row", "turn"]) (sc := defScope s_law_flat_right) (by decide +kernel)) (fun _ _ _ _ _ => (pg_name (i := 4) sc_law_flat_right.nd rfl (Or.inl rfl))) (fun _ _ _ _ _ => pts_nil) (fun _ _ _ _ _ => (pe_bmK (K := K) rfl PySem.F.plainAttrs_list PySem.F.slot_list_pop PySem.F.type_list_pop mt_popAt (pv 1) (pa_cons (pe_call G_law_draw hr (by rfl) T.g_law_draw T.F_law_draw.kp T.b_law_draw .nil pass0 (pa_cons (pv 0) (pa_cons (pe_callB (call_len_seqK (K := K) rfl) (by rfl) T.m_len PySem.boot_len (pa_cons (pv 1) pa_nil)) pa_nil))) pa_nil)))))
      (pss_cons (ps_expr (pe_bm PySem.F.plainAttrs_list PySem.F.slot_list_append PySem.F.type_list_append mt_append (pv 1) (pa_cons (pe_tup (pa_cons (pe_call G_law_draw hr (by rfl) T.g_law_draw T.F_law_draw.kp T.b_law_draw .nil pass0 (pa_cons (pv 0) (pa_cons pe_int pa_nil))) (pa_cons (pe_op op_add pe_int (pe_call G_law_draw hr (by rfl) T.g_law_draw T.F_law_draw.kp T.b_law_draw .nil pass0 (pa_cons (pv 0) (pa_cons pe_int pa_nil)))) pa_nil))) pa_nil)))
      (pss_cons (ps_for PassesOwn.never rfl (pi_tup (pe_tup (pa_cons (pv 1) (pa_cons (pe_lst (pa_cons (pe_call G_law_single hr (by rfl) T.g_law_single T.F_law_single.kp T.b_law_single .nil pass0 (pa_cons (pv 0) pa_nil)) (pa_cons (pe_tup (pa_cons (pe_call G_law_draw hr (by rfl) T.g_law_draw T.F_law_draw.kp T.b_law_draw .nil pass0 (pa_cons (pv 0) (pa_cons pe_int pa_nil))) (pa_cons (pe_op op_add pe_int (pe_call G_law_draw hr (by rfl) T.g_law_draw T.F_law_draw.kp T.b_law_draw .nil pass0 (pa_cons (pv 0) (pa_cons pe_int pa_nil)))) pa_nil))) pa_nil))) pa_nil)))) (pg_name (i := 2) sc_law_flat_right.nd rfl (Or.inl rfl))
      (pss_cons (ps_set (i := 3) sc_law_flat_right.nd rfl (Or.inl rfl) (pe_call G_flatten hr (by rfl) T.g_flatten T.F_flatten.kp T.b_flatten .nil pass0 (pa_cons (pv 2) pa_nil)))
      (pss_cons (ps_if (PW.pt (pw_or (pt_cmpR (op_neD hr.units) (pe_call G_normal_form hr (by rfl) T.g_normal_form T.F_normal_form.kp T.b_normal_form .nil pass0 (pa_cons (pe_lst (pa_cons (pv 3) pa_nil)) pa_nil)) (pe_call G_normal_form hr (by rfl) T.g_normal_form T.F_normal_form.kp T.b_normal_form .nil pass0 (pa_cons (pv 2) pa_nil)) (nomark _)) (pw_or1 (pt_not (pt_val (pe_call G_same_policy hr (by rfl) T.g_same_policy T.F_same_policy.kp T.b_same_policy .nil pass0 (pa_cons (pv 2) (pa_cons (pe_lst (pa_cons (pv 3) pa_nil)) pa_nil))))))))
      (pss_one (ps_ret pe_bl))
      pss_nil)
      (pss_one (ps_if (pt_val (pe_call G_is_unsplittable hr (by rfl) T.g_is_unsplittable T.F_is_unsplittable.kp T.b_is_unsplittable .nil pass0 (pa_cons (pv 3) pa_nil)))
      (pss_one (ps_ret pe_bl))
      pss_nil)))))
      (pss_one (ps_ret pe_bl)))))), ?_⟩
  refine ⟨_, rfl, a, _, 2, rfl, hS, by omega, by decide, by decide, fun H1 r1 A1 l1 u1 => ?_⟩
  have S1 := A1.src _ hS
  refine ⟨_, rfl, a, _, 9, rfl, S1, by omega, by decide, by decide, fun H2 r2 A2 l2 u2 => ⟨_, _, rfl, rfl, size_le (by show 2 ≤ 100000; decide), fun t1 ht1 => ?_⟩⟩
  have S2 := A2.src _ S1
  have s1 := same_new (o := .tup [.int r1, .int (2 + r2)]) ht1
  have ta1 := S2.new1 ht1
  have e1 : hid a a (upd H2 t1 (.tup [.int r1, .int (2 + r2)])) t1 = some (.tup [.int r1, .int (2 + r2)]) := hid_at upd_same ta1 ta1
  generalize upd H2 t1 (.tup [.int r1, .int (2 + r2)]) = H3 at *
  have S3 := S2.same s1
  refine ⟨size_le (by show 3 ≤ 100000; decide), fun t0 ht0 => ?_⟩
  have s0 := same_new (o := .lst [.int 0, .int 1, .int 1]) ht0
  have e0 := upd_same (H := H3) (a := t0) (o := .lst [.int 0, .int 1, .int 1])
  have oa0 := S3.new1 ht0
  have h0 : hid a a (upd H3 t0 (.lst [.int 0, .int 1, .int 1])) t0 = some (.lst [.int 0, .int 1, .int 1]) := hid_at e0 oa0 oa0
  generalize upd H3 t0 (.lst [.int 0, .int 1, .int 1]) = H4 at *
  have S4 := S3.same s0
  refine ⟨_, rfl, a, _, 2, rfl, S4, by omega, by decide, by decide, fun H5 r5 A5 l5 u5 => ?_⟩
  have S5 := A5.src _ S4
  have g0 : H5 t0 = some (.lst [.int 0, .int 1, .int 1]) := (hid_get (A5.same _ _ h0)).1
  refine ⟨_, _, rfl, rfl, _, rfl, t0, _, rfl, sql g0, fun p hp => ?_⟩
  obtain ⟨ws, hws, ew⟩ : ∃ ws : List Int, (ws = [0, 1] ∨ ws = [0, 1, 1]) ∧ cutV [V.int 0, .int 1, .int 1] none (some (2 + r5)) = ws.map V.int := by
    rcases (show r5 = 0 ∨ r5 = 1 by omega) with rfl | rfl
    · exact ⟨[0, 1], .inl rfl, rfl⟩
    · exact ⟨[0, 1, 1], .inr rfl, rfl⟩
  rw [ew]
  have sp := same_new (o := .lst (ws.map V.int)) hp
  have op := S5.new1 hp
  have ep : hid a a (upd H5 p (.lst (ws.map V.int))) p = some (.lst (ws.map V.int)) := hid_at upd_same op op
  generalize upd H5 p (.lst (ws.map V.int)) = H6 at *
  have S6 := S5.same sp
  refine ⟨_, rfl, a, _, 8, rfl, S6, by omega, by decide, by decide, fun H7 r7 A7 l7 u7 => ⟨_, _, rfl, rfl, size_le (by show 2 ≤ 100000; decide), fun t2 ht2 => ?_⟩⟩
  have S7 := A7.src _ S6
  have s2 := same_new (o := .tup [.int 1, .int (2 + r7)]) ht2
  have ta2 := S7.new1 ht2
  have e2 : hid a a (upd H7 t2 (.tup [.int 1, .int (2 + r7)])) t2 = some (.tup [.int 1, .int (2 + r7)]) := hid_at upd_same ta2 ta2
  generalize upd H7 t2 (.tup [.int 1, .int (2 + r7)]) = H8 at *
  have S8 := S7.same s2
  refine ⟨size_le (by show 3 ≤ 100000; decide), fun o ho => ?_⟩
  have so := same_new (o := .lst [.ref t1, .ref p, .ref t2]) ho
  have oo := S8.new1 ho
  have eo : hid a a (upd H8 o (.lst [.ref t1, .ref p, .ref t2])) o = some (.lst [.ref t1, .ref p, .ref t2]) := hid_at upd_same oo oo
  generalize upd H8 o (.lst [.ref t1, .ref p, .ref t2]) = H9 at *
  have S9 := S8.same so
  refine ⟨_, rfl, ?_⟩
  refine ⟨by decide, by decide, fun D hD => ?_⟩
  have k38 := (hid_same (a := a) (d := a) s0).trans (A5.same.trans ((hid_same sp).trans (A7.same.trans (hid_same s2))))
  have e1 := k38 _ _ e1
  have ep := (A7.same.trans (hid_same (a := a) (d := a) s2)) _ _ ep
  have A8 : Rdv a 20 H H8 := (A1.trans (A2.trans ((Rdv.of (s1.trans s0)).trans (A5.trans ((Rdv.of sp).trans (A7.trans (Rdv.of s2) (Int.le_refl _)) (Int.le_refl _)) (Int.le_refl _)) (Int.le_refl _)) (Int.le_refl _)) (Int.le_refl _)).mono (by omega)
  have Lp : Lays (hid a a H8) [.ref t1, .ref p, .ref t2] [.con r1 (2 + r2), .pol ws, .con 1 (2 + r7)] := Lays.cons ⟨t1, rfl, e1⟩ (Lays.cons ⟨p, rfl, ep⟩ (Lays.cons ⟨t2, rfl, e2⟩ (Lays.none _)))
  have gP : ∀ L ∈ [Lay.con r1 (2 + r2), .pol ws, .con 1 (2 + r7)], L10 L := fun L hL => by
    simp only [List.mem_cons, List.not_mem_nil, or_false] at hL
    rcases hL with rfl | rfl | rfl
    · exact L10_con (by omega) (by omega) (by omega)
    · rcases hws with rfl | rfl
      · exact ⟨by decide, by decide, by decide⟩
      · exact ⟨by decide, by decide, by decide⟩
    · exact L10_con (by omega) (by omega) (by omega)
  have lP : [Lay.con r1 (2 + r2), .pol ws, .con 1 (2 + r7)].length = 3 := rfl
  have oD : H8 D = none := so.free hD
  have Da := S9.new1 hD
  have eoD : hid a a (upd H9 D (.lst [])) o = some (.lst [.ref t1, .ref p, .ref t2]) := hid_same (same_new hD) _ _ eo
  have eDD : hid a a (upd H9 D (.lst [])) D = some (.lst []) := hid_at upd_same Da Da
  have AD : Rdv a 0 H8 (upd H9 D (.lst [])) := Rdv.of (so.trans (same_new hD))
  have noD : o ≠ D := fun z => by rw [← z] at hD; rw [(hid_get eo).1] at hD; cases hD
  generalize [V.ref t1, .ref p, .ref t2] = us0 at *
  generalize [Lay.con r1 (2 + r2), .pol ws, .con 1 (2 + r7)] = Ps at *
  refine lc_range (lo := 0) (n := _) (fun i H' => ∃ (us acc : List V) (Ms Ns : List Lay), hid a a H' o = some (.lst us) ∧ hid a a H' D = some (.lst acc) ∧ Lays (hid a a H8) us Ms ∧ Lays (hid a a H8) acc Ns ∧ (Ns ++ Ms).Perm Ps ∧ acc.length = i ∧ Rdv a (2 * i) H8 H')
    ⟨us0, [], Ps, [], eoD, eDD, Lp, Lays.none _, .refl _, rfl, AD.mono (by omega)⟩ (fun i Ha hi h => ?_) (fun Ha h => ?_)
  · obtain ⟨us, acc, Ms, Ns, eu, ea, lu, la, pm, al, Aa⟩ := h
    have hi : i < 3 := hi
    have Sa := Aa.src _ S8
    have ll := pm.length_eq
    rw [List.length_append, lP, ← la.1, ← lu.1, al] at ll
    refine ⟨rfl, yes_thn ⟨_, rfl, .inl ⟨rfl, _, sql (hid_get eu).1⟩, _, rfl, _, rfl, o, _, rfl, .inl (sql (hid_get eu).1), a, _, us.length, rfl, Sa, by omega, by omega, by omega, fun Hb k Ab lk uk => ?_⟩⟩
    have kn : k.toNat < us.length := by omega
    have gk := List.getElem?_eq_getElem kn
    have kn' : k.toNat < Ms.length := by rw [← lu.1]; exact kn
    have gk' := List.getElem?_eq_getElem kn'
    have ly := lu.2 _ _ _ gk gk'
    have pp := pop_perm gk'
    generalize us[k.toNat] = v at *
    generalize Ms[k.toNat] = M at *
    have eub := Ab.same _ _ eu
    have eab := Ab.same _ _ ea
    refine ⟨o, us, k, k.toNat, v, rfl, rfl, (hid_get eub).1, by omega, by omega, (ixN_seq (ixN_at lk (by omega))).1, gk, ?_⟩
    have A9 := (Aa.trans Ab (Int.le_refl _)).mut (o := .lst (us.eraseIdx k.toNat)) S8 ho
    have euc : hid a a (upd Hb o (.lst (us.eraseIdx k.toNat))) o = some (.lst (us.eraseIdx k.toNat)) := hid_at upd_same oo oo
    have eac : hid a a (upd Hb o (.lst (us.eraseIdx k.toNat))) D = some (.lst acc) := by rw [hid_oth oo oo, upd_ne noD.symm]; exact eab
    generalize upd Hb o (.lst (us.eraseIdx k.toNat)) = Hc at *
    refine ⟨acc, (hid_get eac).1, size_lt (by omega), us.eraseIdx k.toNat, acc ++ [v], Ms.eraseIdx k.toNat, Ns ++ [M], by rw [hid_oth Da Da, upd_ne noD]; exact euc, by rw [hid_oth Da Da, upd_same], lays_erase lu _, la.app (Lays.cons ly (Lays.none _)), ?_, by rw [List.length_append, al]; rfl, (A9.mut S8 oD).mono (by omega)⟩
    rw [List.append_assoc]
    exact (List.Perm.append_left Ns pp).trans pm
  · obtain ⟨us, acc, Ms, Ns, eu, ea, lu, la, pm, al, Aa⟩ := h
    have al : acc.length = 3 := al
    have ll := pm.length_eq
    rw [List.length_append, lP, ← la.1, al] at ll
    have mz : Ms = [] := List.length_eq_zero_iff.mp (by omega)
    rw [mz, List.append_nil] at pm
    have gN : ∀ L ∈ Ns, L10 L := fun L hL => gP L (pm.mem_iff.mp hL)
    have lN : Ns.length = 3 := by rw [← la.1, al]
    clear mz ll pm gP lP Lp eoD eDD AD lu eu
    have Sa := Aa.src _ S8
    refine ⟨_, rfl, .inl ⟨rfl, _, sql (hid_get ea).1⟩, _, rfl, a, _, 2, rfl, Sa, by omega, by decide, by decide, fun Hb rb Ab lb ub => ?_⟩
    have Sb := Ab.src _ Sa
    refine ⟨_, rfl, a, _, 8, rfl, Sb, by omega, by decide, by decide, fun Hc rc Ac lc uc => ⟨_, _, rfl, rfl, size_le (by show 2 ≤ 100000; decide), fun t ht => ?_⟩⟩
    have Sc := Ac.src _ Sb
    have st := same_new (o := .tup [.int rb, .int (2 + rc)]) ht
    have ta := Sc.new1 ht
    have et : hid a a (upd Hc t (.tup [.int rb, .int (2 + rc)])) t = some (.tup [.int rb, .int (2 + rc)]) := hid_at upd_same ta ta
    have eac := Ac.same _ _ (Ab.same _ _ ea)
    have tD : t ≠ D := fun z => by rw [z, (hid_get eac).1] at ht; cases ht
    have ead := (hid_same (a := a) (d := a) st) _ _ eac
    have Ad : Rdv a 20 H8 (upd Hc t (.tup [.int rb, .int (2 + rc)])) := (Aa.trans (Ab.trans (Ac.trans (Rdv.of st) (Int.le_refl _)) (Int.le_refl _)) (Int.le_refl _)).mono (by omega)
    generalize upd Hc t (.tup [.int rb, .int (2 + rc)]) = Hd at *
    refine ⟨D, acc, .ref t, rfl, rfl, (hid_get ead).1, size_lt (by omega), ?_⟩
    have Ae := Ad.mut (o := .lst (acc ++ [.ref t])) S8 oD
    have ee : hid a a (upd Hd D (.lst (acc ++ [.ref t]))) D = some (.lst (acc ++ [.ref t])) := hid_at upd_same Da Da
    have et' : hid a a (upd Hd D (.lst (acc ++ [.ref t]))) t = some (.tup [.int rb, .int (2 + rc)]) := by rw [hid_oth Da Da, upd_ne tD]; exact et
    generalize upd Hd D (.lst (acc ++ [.ref t])) = He at *
    have Se := Ae.src _ S8
    have Ne : NestAt (hid a a He) D (Ns ++ [.con rb (2 + rc)]) := ((la.same Ae.same).app (Lays.cons (show LayAt _ (V.ref t) (.con rb (2 + rc)) from ⟨t, rfl, et'⟩) (Lays.none _))).nest ee
    have G1 : Gn (Ns ++ [.con rb (2 + rc)]) := gn4 (fun L hL => by
      rcases List.mem_append.mp hL with z | z
      · exact gN L z
      · rw [List.mem_singleton.mp z]
        exact L10_con (by omega) (by omega) (by omega)) (by rw [List.length_append, lN]; rfl)
    generalize Ns ++ [Lay.con rb (2 + rc)] = Fs at *
    refine ⟨_, rfl, _, rfl, a, _, rfl, Se, by omega, fun Hf p2 w2 Af ff ef sg => ?_⟩
    have Sf := Af.src _ Se
    refine ⟨_, rfl, a, _, 2, rfl, Sf, by omega, by decide, by decide, fun Hg rg Ag lg ug => ?_⟩
    have Sg := Ag.src _ Sf
    refine ⟨_, rfl, a, _, 39, rfl, Sg, by omega, by decide, by decide, fun Hh rh Ah lh uh => ⟨_, _, rfl, rfl, size_le (by show 2 ≤ 100000; decide), fun t4 ht4 => ?_⟩⟩
    have Sh := Ah.src _ Sg
    have s4 := same_new (o := .tup [.int rg, .int (2 + rh)]) ht4
    have t4a := Sh.new1 ht4
    have e4 : hid a a (upd Hh t4 (.tup [.int rg, .int (2 + rh)])) t4 = some (.tup [.int rg, .int (2 + rh)]) := hid_at upd_same t4a t4a
    generalize upd Hh t4 (.tup [.int rg, .int (2 + rh)]) = Hi at *
    have Si := Sh.same s4
    refine ⟨size_le (by show 2 ≤ 100000; decide), fun o4 ho4 => ?_⟩
    have so4 := same_new (o := .lst [.ref p2, .ref t4]) ho4
    have o4a := Si.new1 ho4
    have eo4 : hid a a (upd Hi o4 (.lst [.ref p2, .ref t4])) o4 = some (.lst [.ref p2, .ref t4]) := hid_at upd_same o4a o4a
    generalize upd Hi o4 (.lst [.ref p2, .ref t4]) = Hj at *
    refine ⟨size_le (by show 2 ≤ 100000; decide), fun tt htt => ?_⟩
    have stt := same_new (o := .tup [.ref D, .ref o4]) htt
    have ett := upd_same (H := Hj) (a := tt) (o := .tup [.ref D, .ref o4])
    generalize upd Hj tt (.tup [.ref D, .ref o4]) = Hz at *
    have kz := (hid_same (a := a) (d := a) so4).trans (hid_same (a := a) (d := a) stt)
    have kf := Ag.same.trans (Ah.same.trans ((hid_same (a := a) (d := a) s4).trans kz))
    have N1 : NestAt Hz D Fs := nest_lowF (Ne.same (Af.same.trans kf))
    have N2 : NestAt Hz o4 [.pol w2, .con rg (2 + rh)] := nest_lowF (nest_of (hid_same (a := a) (d := a) stt _ _ eo4) (.cons ⟨p2, rfl, kf _ _ ef⟩ (.cons ⟨t4, rfl, kz _ _ e4⟩ .nil)))
    have G2 : Gn [.pol w2, .con rg (2 + rh)] := gn2 (by omega) (by omega) (by omega) sg
    have Az : Rdv a 290 H Hz := (A8.trans (Ae.trans (Af.trans (Ag.trans (Ah.trans (Rdv.of (s4.trans (so4.trans stt))) (Int.le_refl _)) (Int.le_refl _)) (Int.le_refl _)) (Int.le_refl _)) (Int.le_refl _)).mono (by omega)
    have nests : ∀ x ∈ [V.ref D, .ref o4], ∃ nst Ls, x = V.ref nst ∧ NestAt Hz nst Ls ∧ Gn Ls := fun x hx => by
      simp only [List.mem_cons, List.not_mem_nil, or_false] at hx
      rcases hx with rfl | rfl
      · exact ⟨_, _, rfl, N1, G1⟩
      · exact ⟨_, _, rfl, N2, G2⟩
    refine ⟨tt, rfl, ⟨_, sqt ett⟩, for_tup (xs := [.ref D, .ref o4]) (fun i σ H' => ∃ y2 y3, σ = [some (.ref a), some (.ref D), y2, y3, none] ∧ Same Hz H') ⟨_, _, rfl, Same.refl _⟩ (fun i σ H' _ h => by obtain ⟨_, _, _, sm⟩ := h; exact sqt (sm _ _ ett)) (fun i x σ H' hx h => ?_) (fun σ H' h => ?_)⟩
    · obtain ⟨y2, y3, rfl, sm⟩ := h
      obtain ⟨nst, Ls, rfl, hN, okL, un, at4, l10⟩ := nests x (List.mem_of_getElem? hx)
      have fl := flatL_len _ Ls rfl okL
      have okW : (Lay.pol (flatL Ls)).ok = true := by
        rw [Lay.ok_pol, List.all_eq_true]
        exact fun x hx => decide_eq_true (flat_pos okL x hx)
      have oW : ∀ L ∈ [Lay.pol (flatL Ls)], L.ok = true := fun L hL => by rw [List.mem_singleton.mp hL]; exact okW
      have flW := flat_one okW
      have atW : attOf [Lay.pol (flatL Ls)] = attOf Ls := by
        have := flatL_len _ _ rfl oW
        rw [flW] at this
        omega
      have pl : ∀ ns, Lay.pol ns ∈ Ls → ns.length ≤ 20000 := fun ns hm => by
        have := cnt_le okL hm
        have c : (Lay.pol ns).cnt = (ns.length : Int) + 1 := rfl
        omega
      have plW : ∀ ns, Lay.pol ns ∈ [Lay.pol (flatL Ls)] → ns.length ≤ 20000 := fun ns hm => by
        have := List.mem_singleton.mp hm
        injection this with this
        rw [this]
        omega
      have big : (attOf Ls).natAbs < 2 ^ 9000 := Nat.lt_of_lt_of_le (show (attOf Ls).natAbs < 2 ^ 14 by omega) (Nat.pow_le_pow_right (by decide) (by decide))
      have bigW : (attOf [Lay.pol (flatL Ls)]).natAbs < 2 ^ 9000 := by rw [atW]; exact big
      refine ⟨_, rfl, nst, Ls, rfl, hN.same sm, okL, by omega, at4, fun K1 wa k1 f1 ew => ?_⟩
      have m1 := sm.trans k1
      refine ⟨_, rfl, size_le (by show 1 ≤ 100000; decide), fun c hc => ?_⟩
      have sc := same_new (o := .lst [.ref wa]) hc
      have ec := upd_same (H := K1) (a := c) (o := .lst [.ref wa])
      generalize upd K1 c (.lst [.ref wa]) = K2 at *
      have m2 := m1.trans sc
      have ew2 := sc _ _ ew
      refine ⟨c, [.pol (flatL Ls)], rfl, nest_of ec (.cons ⟨wa, rfl, ew2⟩ .nil), oW, by show 1 ≤ 20000; decide, bigW, plW, fun K3 u us Ms k3 fu vu nu eu => ?_⟩
      have m3 := m2.trans k3
      refine ⟨_, rfl, nst, Ls, rfl, hN.same m3, okL, by omega, big, pl, fun K4 u' us' Ms' k4 fu' vu' nu' eu' => ?_⟩
      have m4 := m3.trans k4
      refine ⟨_, _, dp_nest (vu.same k4).nest, dp_nest vu'.nest, shaped_lays _, shaped_lays _, _, rfl, ?_⟩
      rw [eqv_lays, laysB_iff.mpr (nf_unique nu nu' (eu.trans (flW.trans eu'.symm)))]
      refine iteF ?_
      have ew4 := k4 _ _ (k3 _ _ ew2)
      refine ⟨_, rfl, _, rfl, size_le (by show 1 ≤ 100000; decide), fun c2 hc2 => ?_⟩
      have sc2 := same_new (o := .lst [.ref wa]) hc2
      have ec2 := upd_same (H := K4) (a := c2) (o := .lst [.ref wa])
      generalize upd K4 c2 (.lst [.ref wa]) = K5 at *
      have m5 := m4.trans sc2
      have ew5 := sc2 _ _ ew4
      refine ⟨nst, c2, Ls, [.pol (flatL Ls)], rfl, hN.same m5, nest_of ec2 (.cons ⟨wa, rfl, ew5⟩ .nil), okL, oW, by omega, by show 1 ≤ 20000; decide, big, bigW, pl, plW, fun K6 k6 => ?_⟩
      have m6 := m5.trans k6
      rw [flW, decide_eq_true rfl]
      refine ⟨_, rfl, iteF ?_⟩
      refine ⟨_, rfl, wa, flatL Ls, rfl, sql (k6 _ _ ew5), by omega, flat_pos okL, fun K7 k7 => ?_⟩
      rw [un]
      exact ⟨_, rfl, iteF ⟨_, _, rfl, m6.trans k7⟩⟩
    · obtain ⟨_, _, rfl, sm⟩ := h
      exact (q H' ((Az.trans (Rdv.of sm) (Int.le_refl _)).mono (by omega)))

end
end Rn
namespace Rn
open PySem PySem.Spec PyProof.Rows L2
section
variable {P : Program} {w : World} {K : PySem.W.Frag} {mg : Str → Option Value} {base : Heap}
theorem Rng.obj {H : Hp} {a : Addr} {n : Int} (s : Rng H a n) : ∃ o, H a = some o := by
  obtain ⟨_, _, _, h, _⟩ := s
  exact ⟨_, h⟩
/-- a pair of the law: the tuple, the layer and its parts -/
structure It where
  t : V
  lv : V
  L : Lay
  ps : List Lay
def ItAt (G : Hp) (x : It) : Prop := ∃ t pa, x.t = .ref t ∧ G t = some (.tup [x.lv, .ref pa]) ∧ LayAt G x.lv x.L ∧ NestAt G pa x.ps ∧ LPs x.L x.ps
def Its (G : Hp) (xs : List It) : Prop := ∀ x ∈ xs, ItAt G x
theorem Its.same {G G' : Hp} {xs : List It} (h : Its G xs) (e : Same G G') : Its G' xs := fun x hx => by
  obtain ⟨t, pa, h1, h2, h3, h4, h5⟩ := h x hx
  exact ⟨t, pa, h1, e _ _ h2, h3.same e, h4.same e, h5⟩
theorem lay_low {a d : Addr} {G : Hp} {v : V} {L : Lay} (h : LayAt (hid a d G) v L) : LayAt G v L := by
  cases L with
  | pol ns => obtain ⟨p, e, z⟩ := h; exact ⟨p, e, (hid_get z).1⟩
  | con w n => obtain ⟨p, e, z⟩ := h; exact ⟨p, e, (hid_get z).1⟩
theorem Its.low {a d : Addr} {G : Hp} {xs : List It} (h : Its (hid a d G) xs) : Its G xs := fun x hx => by
  obtain ⟨t, pa, h1, h2, h3, h4, h5⟩ := h x hx
  exact ⟨t, pa, h1, (hid_get h2).1, lay_low h3, nest_lowL h4, h5⟩
theorem Its.lays {G : Hp} {xs : List It} (h : Its G xs) : Lays G (xs.map It.lv) (xs.map It.L) := by
  refine ⟨by rw [List.length_map, List.length_map], fun i v L a b => ?_⟩
  rw [List.getElem?_map] at a b
  obtain ⟨x, hx, rfl⟩ := Option.map_eq_some_iff.mp a
  rw [hx] at b
  cases b
  obtain ⟨_, _, _, _, h3, _⟩ := h x (List.mem_of_getElem? hx)
  exact h3
theorem Its.pairs {G : Hp} {xs : List It} (h : Its G xs) : Pairs G (xs.map It.t) (xs.map It.ps) := by
  refine ⟨by rw [List.length_map, List.length_map], fun i v Ls a b => ?_⟩
  rw [List.getElem?_map] at a b
  obtain ⟨x, hx, rfl⟩ := Option.map_eq_some_iff.mp a
  rw [hx] at b
  cases b
  obtain ⟨t, pa, h1, h2, _, h4, _⟩ := h x (List.mem_of_getElem? hx)
  exact ⟨t, x.lv, pa, h1, h2, h4⟩
theorem Its.lps {G : Hp} {xs : List It} (h : Its G xs) : ∀ x ∈ xs, LPs x.L x.ps := fun x hx => by
  obtain ⟨_, _, _, _, _, _, h5⟩ := h x hx
  exact h5
theorem its_nice : ∀ {xs : List It}, (∀ x ∈ xs, LPs x.L x.ps) → (∀ L ∈ xs.map It.L, L.nice) ∧ (∀ L ∈ (xs.map It.ps).flatten, L.nice ∧ ∀ ns, L = .pol ns → L.nf) ∧ (xs.map It.ps).flatten.length ≤ 3 * xs.length ∧ flatL (xs.map It.ps).flatten = flatL (xs.map It.L)
  | [], _ => ⟨(fun _ z => nomatch z), (fun _ z => nomatch z), Nat.le_refl _, rfl⟩
  | x :: xs, h => by
    have hx := h x List.mem_cons_self
    obtain ⟨i1, i2, i3, i4⟩ := its_nice fun y hy => h y (List.mem_cons_of_mem _ hy)
    refine ⟨fun L hL => ?_, fun L hL => ?_, ?_, ?_⟩
    · rcases List.mem_cons.mp hL with rfl | z
      · exact hx.nice
      · exact i1 L z
    · rw [List.map_cons, List.flatten_cons] at hL
      rcases List.mem_append.mp hL with z | z
      · exact hx.pt L z
      · exact i2 L z
    · rw [List.map_cons, List.flatten_cons, List.length_append, List.length_cons]
      have := hx.few
      omega
    · rw [List.map_cons, List.flatten_cons, flat_app (fun P hP => (hx.pt P hP).1.1) fun P hP => (i2 P hP).1.1, i4, hx.flat, List.map_cons, flatL_cons fun M hM => by
        rcases List.mem_cons.mp hM with rfl | z
        · exact hx.nice.1
        · exact (i1 M z).1]
theorem step_pol {acc : List Lay} {L : Lay} {ns : List Int} (h : Lay.pol ns ∈ stepL acc L) : Lay.pol ns ∈ acc ∨ Lay.pol ns = L := by
  cases L with
  | pol ms => exact push_pol h
  | con w n =>
    unfold stepL at h
    dsimp only at h
    by_cases c : 1 < n
    · rw [if_pos c] at h
      exact push_pol h
    · rw [if_neg c] at h
      exact .inl h
theorem due_pol {ns : List Int} : ∀ (ls : List Lay) {acc : List Lay}, Lay.pol ns ∈ ls.foldl stepL acc → Lay.pol ns ∈ acc ∨ Lay.pol ns ∈ ls
  | [], acc, h => .inl h
  | L :: ls, acc, h => by
    rcases due_pol ls h with z | z
    · rcases step_pol z with y | y
      · exact .inl y
      · exact .inr (by rw [y]; exact List.mem_cons_self)
    · exact .inr (List.mem_cons_of_mem _ z)
/-- what holds of the pairs -/
structure Fx (xs : List It) : Prop where
  nice : ∀ L ∈ xs.map It.L, L.nice
  fit : Fit (xs.map It.L)
  fitD : Fit (dueL (xs.map It.ps).flatten)
  nf : NF (dueL (xs.map It.ps).flatten)
  flat : flatL (dueL (xs.map It.ps).flatten) = flatL (xs.map It.L)
  pt : ∀ Ls ∈ xs.map It.ps, Ls.length ≤ 10 ∧ ∀ L ∈ Ls, Pt L
  small : (attOf (xs.map It.ps).flatten).natAbs < 2 ^ 1000
theorem fx {xs : List It} (h : ∀ x ∈ xs, LPs x.L x.ps) (l : xs.length ≤ 8) : Fx xs := by
  obtain ⟨i1, i2, i3, i4⟩ := its_nice h
  have ll : (xs.map It.L).length = xs.length := List.length_map ..
  have ok1 : ∀ L ∈ xs.map It.L, L.ok = true := fun L hL => (i1 L hL).1
  have ok2 : ∀ L ∈ (xs.map It.ps).flatten, L.ok = true := fun L hL => (i2 L hL).1.1
  have a1 := flatL_len _ _ rfl ok1
  have a2 := flatL_len _ _ rfl ok2
  have b1 := (attOf_lt _ (xs.map It.L) rfl fun L hL => ⟨ok1 L hL, nice_cnt (i1 L hL)⟩).2
  have b2 : (attOf (xs.map It.L)).natAbs < 2 ^ 1000 := Nat.lt_of_lt_of_le b1 (Nat.pow_le_pow_right (by decide) (by omega))
  have b3 : (attOf (xs.map It.ps).flatten).natAbs < 2 ^ 1000 := by
    rw [← a2, i4, a1]
    exact b2
  obtain ⟨d1, d2⟩ := due_ok (Ls := (xs.map It.ps).flatten) fun L hL => ⟨(i2 L hL).1.1, (i2 L hL).2⟩
  have f1 : Fit (xs.map It.L) := fit_nice i1 (by omega)
  have a3 := flatL_len _ _ rfl d1.oks
  have b4 : attOf (dueL (xs.map It.ps).flatten) = attOf (xs.map It.L) := by rw [← a3, d2, i4, a1]
  refine ⟨i1, f1, ⟨d1.oks, ?_, by rw [b4]; exact f1.small, fun ns hns => ?_⟩, d1, d2.trans i4, fun Ls hLs => ?_, b3⟩
  · have e : (attOf ((xs.map It.L) ++ [])).natAbs < 2 ^ 9000 := by rw [List.append_nil]; exact f1.small
    have := nf_short (Bs := []) d1.1 (d2.trans i4) ok1 (fun _ z => nomatch z) e
    omega
  · rcases due_pol _ hns with z | z
    · cases z
    · have : ns.length ≤ 60 := (i2 _ z).1.2.1
      omega
  · obtain ⟨x, hx, rfl⟩ := List.mem_map.mp hLs
    have := h x hx
    exact ⟨Nat.le_trans this.few (by decide), fun L hL => ⟨(this.pt L hL).1.1, (this.pt L hL).2⟩⟩
/-- a layer in the place of another one with other waits -/
theorem flat_set : ∀ {Ls : List Lay} {k : Nat} {L L' : Lay}, Ls[k]? = some L → (∀ M ∈ Ls, M.ok = true) → L'.ok = true → L'.waits ≠ L.waits → flatL (Ls.set k L') ≠ flatL Ls
  | [], k, L, L', h, _, _, _ => by cases h
  | M :: Ls, 0, L, L', h, ok, ok', ne => fun z => by
    cases h
    have o2 : ∀ N ∈ L' :: Ls, N.ok = true := fun N hN => by
      rcases List.mem_cons.mp hN with rfl | y
      · exact ok'
      · exact ok N (List.mem_cons_of_mem _ y)
    rw [List.set_cons_zero, flatL_cons o2, flatL_cons ok] at z
    have l1 := nestL_len L'.waits (flatL Ls)
    have l2 := nestL_len M.waits (flatL Ls)
    rw [z, l2] at l1
    have := Nat.eq_of_mul_eq_mul_right (Nat.succ_pos _) l1
    exact ne (nestL_inj (by omega) z).1
  | M :: Ls, k + 1, L, L', h, ok, ok', ne => fun z => by
    have oT : ∀ N ∈ Ls, N.ok = true := fun N hN => ok N (List.mem_cons_of_mem _ hN)
    have o2 : ∀ N ∈ M :: Ls.set k L', N.ok = true := fun N hN => by
      rcases List.mem_cons.mp hN with rfl | y
      · exact ok _ List.mem_cons_self
      · rcases List.mem_or_eq_of_mem_set y with y | rfl
        · exact oT N y
        · exact ok'
    rw [List.set_cons_succ, flatL_cons o2, flatL_cons ok] at z
    exact flat_set (Ls := Ls) (k := k) h oT ok' ne (nestL_inj rfl z).2
/-- many equal constant layers -/
theorem flat_repC {w n : Int} (h0 : 0 ≤ w) (h1 : 1 ≤ n) : ∀ k : Nat, flatL (List.replicate k (.con w n)) = flatL [.con w (n ^ k)]
  | 0 => by
    have e : n ^ 0 = 1 := Int.pow_zero n
    rw [e, flatL_con h0 (by decide)]
    rfl
  | k + 1 => by
    have ok : (Lay.con w n).ok = true := by rw [Lay.ok_con, decide_eq_true h0, decide_eq_true h1]; rfl
    have p1 : 1 ≤ n ^ k := by
      have := Int.pow_pos (n := n) (m := k) (by omega)
      omega
    have p2 : 1 ≤ n ^ (k + 1) := by
      have := Int.pow_pos (n := n) (m := k + 1) (by omega)
      omega
    rw [List.replicate_succ, flatL_cons fun M hM => by
      rcases List.mem_cons.mp hM with rfl | z
      · exact ok
      · rw [List.eq_of_mem_replicate z]; exact ok, flat_repC h0 h1 k, flatL_con h0 p1, flatL_con h0 p2, show (Lay.con w n).waits = List.replicate (n - 1).toNat w from rfl, nest_rep]
    congr 1
    have e1 : (((n - 1).toNat + 1 : Nat) : Int) = n := by omega
    have e2 : (((n ^ k - 1).toNat + 1 : Nat) : Int) = n ^ k := by omega
    have e3 : ((((n - 1).toNat + 1) * ((n ^ k - 1).toNat + 1) : Nat) : Int) = n ^ (k + 1) := by
      rw [Int.natCast_mul, e1, e2, Int.pow_succ, Int.mul_comm]
    generalize ((n - 1).toNat + 1) * ((n ^ k - 1).toNat + 1) = m at *
    omega
/-- no layer lies at a list of references -/
theorem lay_off {G : Hp} {D : Addr} {us : List V} {v : V} {L : Lay} (hD : G D = some (.lst us)) (hu : ∀ u ∈ us, ∃ x, u = V.ref x) (h : LayAt G v L) (ne : ∀ ns, L = .pol ns → 0 < ns.length) : ∀ x, v = .ref x → x ≠ D := fun x e z => by
  subst e
  subst z
  cases L with
  | con w n => obtain ⟨p, e, y⟩ := h; cases e; rw [hD] at y; cases y
  | pol ns =>
    obtain ⟨p, e, y⟩ := h
    cases e
    rw [hD] at y
    cases y
    cases ns with
    | nil => exact absurd (ne [] rfl) (by decide)
    | cons n ns =>
      obtain ⟨x, y⟩ := hu (.int n) List.mem_cons_self
      cases y
theorem lay_hid {a D : Addr} {G : Hp} {v : V} {L : Lay} (h : LayAt (hid a a G) v L) (ne : ∀ x, v = .ref x → x ≠ D) : LayAt (hid a D G) v L := by
  cases L with
  | pol ns => obtain ⟨p, rfl, z⟩ := h; have := hid_get z; exact ⟨p, rfl, hid_at this.1 this.2.1 (ne p rfl)⟩
  | con w n => obtain ⟨p, rfl, z⟩ := h; have := hid_get z; exact ⟨p, rfl, hid_at this.1 this.2.1 (ne p rfl)⟩
theorem same_hid2 {a D : Addr} {G G' : Hp} (h : Same (hid a a G) (hid a a G')) : Same (hid a D G) (hid a D G') := fun b o e => by
  obtain ⟨e1, e2, e3⟩ := hid_get e
  have := hid_get (h _ _ (hid_at e1 e2 e2))
  exact hid_at this.1 e2 e3
theorem same_hid3 {a D : Addr} {G : Hp} : Same (hid a D G) (hid a a G) := fun b o e => by
  obtain ⟨e1, e2, e3⟩ := hid_get e
  exact hid_at e1 e2 e2
theorem off_it {G : Hp} {a D : Addr} {xs : List It} {lv : V} {t pa : Addr} {L : Lay} {ps : List Lay} (hD : G D = some (.lst (xs.map It.t))) (hx : Its G xs) (td : t ≠ D) (ht : hid a a G t = some (.tup [lv, .ref pa])) (hl : LayAt (hid a a G) lv L)
    (hN : NestAt (hid a a G) pa ps) (lp : LPs L ps) : ItAt (hid a D G) ⟨.ref t, lv, L, ps⟩ := by
  have hu : ∀ u ∈ xs.map It.t, ∃ x, u = V.ref x := fun u hu => by
    obtain ⟨x, hx', rfl⟩ := List.mem_map.mp hu
    obtain ⟨t, _, e, _⟩ := hx x hx'
    exact ⟨t, e⟩
  have g := hid_get ht
  obtain ⟨vs, n1, n2, n3⟩ := hN
  have gn := hid_get n1
  have off : ∀ (i : Nat) v M, vs[i]? = some v → ps[i]? = some M → ∀ x, v = .ref x → x ≠ D := fun i v M a b => lay_off hD hu (lay_low (n3 i v M a b)) fun ns e => by
    have := (lp.pt M (List.mem_of_getElem? b)).2 ns e
    rw [e] at this
    exact this.1.1
  have pD : pa ≠ D := fun z => by
    rw [z, hD] at gn
    have e := gn.1
    cases e
    cases xs with
    | nil => exact lp.some (List.length_eq_zero_iff.mp n2.symm)
    | cons x xs =>
      cases ps with
      | nil => cases n2
      | cons M ps =>
        obtain ⟨t0, pa0, e0, h0, _⟩ := hx x List.mem_cons_self
        have l0 := lay_low (n3 0 x.t M rfl rfl)
        rw [e0] at l0
        cases M with
        | pol ns => obtain ⟨p, e, y⟩ := l0; cases e; rw [h0] at y; cases y
        | con w n =>
          obtain ⟨p, e, y⟩ := l0
          cases e
          rw [h0] at y
          injection y with y
          injection y with y
          injection y with _ y
          injection y with y _
          cases y
  exact ⟨t, pa, rfl, hid_at g.1 g.2.1 td, lay_hid hl (lay_off hD hu (lay_low hl) fun ns e => by
    have := lp.big.2
    rw [e] at this
    exact this.1), ⟨vs, hid_at gn.1 gn.2.1 pD, n2, fun i v M a b => lay_hid (n3 i v M a b) (off i v M a b)⟩, lp⟩
def sp_law (K : PySem.W.Frag) : Sp := fun vs H Q _ => ∃ (a : Addr) (ns : List Int), vs = [.ref a] ∧ SqL K H a (ns.map V.int) ∧ ns.length ≤ 63 ∧ ∀ H', Q (.bl true) H'
abbrev lvl_law : Nat := 9
theorem ok_law (T : Txt K mg) : FnG P w K mg base lvl_law T.f_law T.d_law ["script"] (sp_law K) := by
  have G_law_rng := (ok_law_rng (P := P) (w := w) (base := base) T).mono (by decide : 1 ≤ 8)
  have G_law_draw := (ok_law_draw (P := P) (w := w) (base := base) T).mono (by decide : 1 ≤ 8)
  have G_law_layer := (ok_law_layer (P := P) (w := w) (base := base) T).mono (by decide : 3 ≤ 8)
  have G_law_due := (ok_law_due (P := P) (w := w) (base := base) T).mono (by decide : 1 ≤ 8)
  have G_law_sorted := (ok_law_sorted (P := P) (w := w) (base := base) T).mono (by decide : 1 ≤ 8)
  have G_law_changed := (ok_law_changed (P := P) (w := w) (base := base) T).mono (by decide : 2 ≤ 8)
  have G_normal_form := (ok_normal_form (P := P) (w := w) (base := base) T).mono (by decide : 6 ≤ 8)
  have G_same_policy := (ok_same_policy (P := P) (w := w) (base := base) T).mono (by decide : 7 ≤ 8)
  have G_law_flat_right := (ok_law_flat_right (P := P) (w := w) (base := base) T)
  refine okG T.F_law sc_law (fun cdv A outer s H vs Q E gu hr h => ?_)
  obtain ⟨sa, ns, rfl, hS, hl, q⟩ := h
  refine ⟨_, (pss_cons (ps_set (i := 1) sc_law.nd rfl (Or.inr rfl) (pe_call G_law_rng hr (by rfl) T.g_law_rng T.F_law_rng.kp T.b_law_rng .nil pass0 (pa_cons (pv 0) pa_nil)))
      (pss_cons (ps_for PassesOwn.never rfl (pi_range1 (by rfl) T.m_range (pa_cons (pe_op op_add pe_int (pe_callB (call_min2 rfl) (by rfl) T.m_min (by decide +kernel) (pa_cons pe_int (pa_cons (pe_callB call_len_seq (by rfl) T.m_len PySem.boot_len (pa_cons (pv 0) pa_nil)) pa_nil)))) pa_nil)) (pg_name (i := 2) sc_law.nd rfl (Or.inl rfl))
      (pss_cons (ps_setLc (i := 3) (own := [("turn", 11)]) (g := gName 11) (tt := tYes) rfl sc_law.nd rfl rfl (sw_true rfl rfl rfl (by decide +kernel)) (pi_range1 (by rfl) T.m_range (pa_cons (pe_call G_law_draw hr (by rfl) T.g_law_draw T.F_law_draw.kp T.b_law_draw .nil pass0 (pa_cons (pv 1) (pa_cons pe_int pa_nil))) pa_nil)) (blkOk_by (N := ["script", "rng", "lap", "pairs", "layers", "passed", "due", "at", "other", "turned", "far", "turn", "layer", "parts"]) (sc := defScope s_law) (by decide +kernel)) (fun _ _ _ _ _ => (pg_name (i := 11) sc_law.nd rfl (Or.inl rfl))) (fun _ _ _ _ _ => pts_nil) (fun _ _ _ _ _ => (pe_call G_law_layer hr (by rfl) T.g_law_layer T.F_law_layer.kp T.b_law_layer .nil pass0 (pa_cons (pv 1) pa_nil))))
      (pss_cons (ps_setLc (i := 4) (own := [("layer", 12), ("parts", 13)]) (g := gTup K 2 (gCons (gName 12) (gCons (gName 13) gNil))) (tt := tYes) rfl sc_law.nd rfl rfl (sw_true rfl rfl rfl (by decide +kernel)) (pi_list (pv 3)) (blkOk_by (N := ["script", "rng", "lap", "pairs", "layers", "passed", "due", "at", "other", "turned", "far", "turn", "layer", "parts"]) (sc := defScope s_law) (by decide +kernel)) (fun _ _ _ _ _ => (pg_tupK (K := K) rfl rfl (pgs_cons (pg_name (i := 12) sc_law.nd rfl (Or.inl rfl)) (pgs_cons (pg_name (i := 13) sc_law.nd rfl (Or.inl rfl)) pgs_nil)))) (fun _ _ _ _ _ => pts_nil) (fun _ _ _ _ _ => (pv 12)))
      (pss_cons (ps_par (i := 5) (j := 6) (by rfl) sc_law.nd rfl rfl (by decide) rfl rfl (pa_cons (pe_callB (call_repr gu hr) (by rfl) T.m_repr (by decide +kernel) (pa_cons (pv 4) pa_nil)) (pa_cons (pe_call G_law_due hr (by rfl) T.g_law_due T.F_law_due.kp T.b_law_due .nil pass0 (pa_cons (pv 3) pa_nil)) pa_nil)) (by rfl))
      (pss_cons (ps_if (PW.pt (pw_or (pt_cmpR (op_neD hr.units) (pe_call G_normal_form hr (by rfl) T.g_normal_form T.F_normal_form.kp T.b_normal_form .nil pass0 (pa_cons (pv 4) pa_nil)) (pv 6) (nomark _)) (pw_or (pt_not (pt_val (pe_call G_same_policy hr (by rfl) T.g_same_policy T.F_same_policy.kp T.b_same_policy .nil pass0 (pa_cons (pe_call G_law_sorted hr (by rfl) T.g_law_sorted T.F_law_sorted.kp T.b_law_sorted .nil pass0 (pa_cons (pv 4) pa_nil)) (pa_cons (pv 4) pa_nil))))) (pw_or1 (pt_cmpR op_ne (pe_callB (call_repr gu hr) (by rfl) T.m_repr (by decide +kernel) (pa_cons (pv 4) pa_nil)) (pv 5) (nomark _))))))
      (pss_one (ps_ret pe_bl))
      pss_nil)
      (pss_cons (ps_if (PW.pt (pw_or (pt_cmpR (op_neD hr.units) (pe_call G_normal_form hr (by rfl) T.g_normal_form T.F_normal_form.kp T.b_normal_form .nil pass0 (pa_cons (pv 6) pa_nil)) (pv 6) (nomark _)) (pw_or1 (pt_not (pt_val (pe_call G_same_policy hr (by rfl) T.g_same_policy T.F_same_policy.kp T.b_same_policy .nil pass0 (pa_cons (pv 6) (pa_cons (pv 4) pa_nil))))))))
      (pss_one (ps_ret pe_bl))
      pss_nil)
      (pss_one (ps_if (pt_cmpR (op_neD hr.units) (pv 4) (pe_lst pa_nil) (nomark _))
      (pss_cons (ps_set (i := 7) sc_law.nd rfl (Or.inl rfl) (pe_call G_law_draw hr (by rfl) T.g_law_draw T.F_law_draw.kp T.b_law_draw .nil pass0 (pa_cons (pv 1) (pa_cons (pe_callB call_len_seq (by rfl) T.m_len PySem.boot_len (pa_cons (pv 4) pa_nil)) pa_nil))))
      (pss_cons (ps_set (i := 8) sc_law.nd rfl (Or.inl rfl) (pe_callTy call_list_of (by rfl) T.m_list (by decide +kernel) (pa_cons (pv 4) pa_nil)))
      (pss_cons (ps_asg (pe_call G_law_changed hr (by rfl) T.g_law_changed T.F_law_changed.kp T.b_law_changed .nil pass0 (pa_cons (pv 1) (pa_cons (pe_ix ix_list (pv 4) (pv 7) (fun _ _ => rfl)) pa_nil))) (pg_sub (pv 8) (pv 7) set_list))
      (pss_cons (ps_if (pt_val (pe_call G_same_policy hr (by rfl) T.g_same_policy T.F_same_policy.kp T.b_same_policy .nil pass0 (pa_cons (pv 8) (pa_cons (pv 4) pa_nil))))
      (pss_one (ps_ret pe_bl))
      pss_nil)
      (pss_cons (ps_set (i := 9) sc_law.nd rfl (Or.inl rfl) (pe_op op_cat (pe_op op_cat (pe_slice sl_list (pv 3) po_none (po_some (pv 7))) (pe_revL (pe_slice sl_list (pv 3) (po_some (pv 7)) (po_some (pe_op op_add (pv 7) pe_int))))) (pe_slice sl_list (pv 3) (po_some (pe_op op_add (pv 7) pe_int)) po_none)))
      (pss_one (ps_if (pt_cmpR op_ne (pe_call G_same_policy hr (by rfl) T.g_same_policy T.F_same_policy.kp T.b_same_policy .nil pass0 (pa_cons (pe_lc (own := [("layer", 12), ("parts", 13)]) (g := gTup K 2 (gCons (gName 12) (gCons (gName 13) gNil))) (tt := tYes) rfl sc_law.nd (pi_list (pv 9)) (blkOk_by (N := ["script", "rng", "lap", "pairs", "layers", "passed", "due", "at", "other", "turned", "far", "turn", "layer", "parts"]) (sc := defScope s_law) (by decide +kernel)) (fun _ _ _ _ _ => (pg_tupK (K := K) rfl rfl (pgs_cons (pg_name (i := 12) sc_law.nd rfl (Or.inl rfl)) (pgs_cons (pg_name (i := 13) sc_law.nd rfl (Or.inl rfl)) pgs_nil)))) (fun _ _ _ _ _ => pts_nil) (fun _ _ _ _ _ => (pv 12))) (pa_cons (pv 4) pa_nil))) (pe_cmpR (op_eqD hr.units) (pe_call G_law_due hr (by rfl) T.g_law_due T.F_law_due.kp T.b_law_due .nil pass0 (pa_cons (pv 9) pa_nil)) (pv 6) (nomark _)) (nomark _))
      (pss_one (ps_ret pe_bl))
      pss_nil)))))))
      pss_nil))))))))
      (pss_cons (ps_set (i := 10) sc_law.nd rfl (Or.inl rfl) (pe_op op_rep (pe_lst (pa_cons (pe_tup (pa_cons pe_int (pa_cons (pe_op op_sub (pe_op op_pow pe_int pe_int) pe_int) pa_nil))) pa_nil)) pe_int))
      (pss_cons (ps_if (PW.pt (pw_or (pt_cmpR (op_neD hr.units) (pe_call G_normal_form hr (by rfl) T.g_normal_form T.F_normal_form.kp T.b_normal_form .nil pass0 (pa_cons (pe_slice sl_list (pv 10) po_none (po_some pe_int)) pa_nil)) (pe_lst (pa_cons (pe_tup (pa_cons pe_int (pa_cons (pe_op op_powW (pe_op op_sub (pe_op op_pow pe_int pe_int) pe_int) pe_int) pa_nil))) pa_nil)) (nomark _)) (pw_or1 (pt_not (pt_val (pe_call G_law_flat_right hr (by rfl) T.g_law_flat_right T.F_law_flat_right.kp T.b_law_flat_right .nil pass0 (pa_cons (pv 1) pa_nil)))))))
      (pss_one (ps_ret pe_bl))
      pss_nil)
      (pss_one (ps_ret (pe_cmpR (op_eqD hr.units) (pe_call G_normal_form hr (by rfl) T.g_normal_form T.F_normal_form.kp T.b_normal_form .nil pass0 (pa_cons (pv 10) pa_nil)) (pe_lst (pa_cons (pe_tup (pa_cons pe_int (pa_cons (pe_op op_powW (pe_op op_sub (pe_op op_pow pe_int pe_int) pe_int) pe_int) pa_nil))) pa_nil)) (nomark _)))))))), ?_⟩
  refine ⟨_, rfl, sa, ns, rfl, hS, hl, fun H1 a s1 f1 S1 => ?_⟩
  have hlen : (ns.map V.int).length ≤ 63 := by rw [List.length_map]; exact hl
  have hmin : ∀ z : Int, (if z < 14 then z else 14) ≤ 14 := fun z => by split <;> omega
  have hmin0 : 0 ≤ (if (((ns.map V.int).length : Nat) : Int) < 14 then (((ns.map V.int).length : Nat) : Int) else 14) := by split <;> omega
  have hm1 := hmin (((ns.map V.int).length : Nat) : Int)
  refine ⟨_, rfl, sa, _, rfl, .inl (s1.seq hS), _, _, rfl, _, _, rfl, rfl, _, rfl, by omega, by omega, ?_⟩
  refine for_range (lo := 0) (n := _)
    (fun i σ H' => (∃ y2 y3 y4 y5 y6 y7 y8 y9 y10 y11 y12 y13, σ = [some (.ref sa), some (.ref a), y2, y3, y4, y5, y6, y7, y8, y9, y10, y11, y12, y13]) ∧ Rdv a (10000 * i) H1 H') ⟨⟨_, _, _, _, _, _, _, _, _, _, _, _, rfl⟩, Rdv.refl⟩ (fun i σ H2 hi h => ?_) (fun σ H2 h => ?_)
  · obtain ⟨⟨y2, y3, y4, y5, y6, y7, y8, y9, y10, y11, y12, y13, rfl⟩, A2⟩ := h
    have hi' : (i : Int) < 26 := by omega
    have S2 := A2.src 0 S1
    -- pairs
    refine ⟨_, rfl, a, _, 9, rfl, S2, by omega, by decide, by decide, fun H3 r3 A3 l3 u3 => ⟨_, rfl, by omega, by omega, fun D hD => ?_⟩⟩
    have S3 := A3.src _ S2
    have Da := S3.new1 hD
    refine lc_range (lo := 0) (n := _) (fun j H' => ∃ xs : List It, hid a a H' D = some (.lst (xs.map It.t)) ∧ Its (hid a D H') xs ∧ xs.length = j ∧ Rdv a (900 * j) H3 H')
      ⟨[], hid_at upd_same Da Da, (fun _ z => nomatch z), rfl, (Rdv.of (same_new hD)).mono (by omega)⟩ (fun j H4 hj h => ?_) (fun H4 h => ?_)
    · obtain ⟨xs, e4, I4, l4, A4⟩ := h
      have S4 := A4.src _ S3
      refine ⟨rfl, yes_thn ⟨_, rfl, a, _, rfl, S4, by omega, fun H5 t lv pa L ps A5 ft et hl hN lp => ?_⟩⟩
      have e5 := A5.same _ _ e4
      have I5 := I4.same (same_hid2 (D := D) A5.same)
      have td : t ≠ D := fun z => by rw [z, (hid_get e4).1] at ft; cases ft
      have it := off_it (hid_get e5).1 I5.low td et hl hN lp
      refine ⟨_, (hid_get e5).1, size_lt (by rw [List.length_map]; omega), xs ++ [⟨.ref t, lv, L, ps⟩], by rw [hid_oth Da Da, upd_same, List.map_append]; rfl, fun x hx => ?_, by rw [List.length_append, l4]; rfl, ((A4.trans A5 (Int.le_refl _)).mut S3 hD).mono (by omega)⟩
      rw [hid_src2]
      rcases List.mem_append.mp hx with z | z
      · exact I5 x z
      · rw [List.mem_singleton.mp z]
        exact it
    obtain ⟨xs, e4, I4, l4, A4⟩ := h
    have I4 := I4.same (same_hid3 (a := a) (D := D))
    have S4 := A4.src _ S3
    have lx : xs.length ≤ 8 := by omega
    have F := fx I4.lps lx
    have A4 : Rdv a (10000 * i + 7300) H1 H4 := (A2.trans (A3.trans A4 (Int.le_refl _)) (Int.le_refl _)).mono (by omega)
    have S4 := A4.src _ S1
    -- layers
    refine ⟨_, rfl, D, rfl, ⟨_, sql (hid_get e4).1⟩, fun R hR => ?_⟩
    have lL := I4.low
    refine lc_list (xs := xs.map It.t) (fun j H' => Same H4 H' ∧ H' R = some (.lst ((xs.take j).map It.lv))) ⟨same_new hR, upd_same⟩ (fun j H' _ h => sql (h.1 _ _ (hid_get e4).1)) (fun j v H5 hv h => ?_) (fun H5 h => ?_)
    · obtain ⟨s5, eR⟩ := h
      rw [List.getElem?_map] at hv
      obtain ⟨x, hx, rfl⟩ := Option.map_eq_some_iff.mp hv
      obtain ⟨t, pa, et, ht, _⟩ := lL x (List.mem_of_getElem? hx)
      rw [et]
      have hj : j < xs.length := (List.getElem?_eq_some_iff.mp hx).1
      refine ⟨t, _, rfl, sqt (s5 _ _ ht), rfl, _, _, rfl, _, _, rfl, rfl, rfl, yes_thn ⟨_, rfl, _, eR, size_lt (by rw [List.length_map, List.length_take]; omega), same_keep s5 hR, ?_⟩⟩
      rw [upd_same, List.take_add_one, hx, Option.toList_some, List.map_append]
      rfl
    obtain ⟨s5, eR⟩ := h
    rw [List.length_map, List.take_length] at eR
    have A5 := A4.trans (Rdv.of s5) (Int.le_refl _)
    have S5 := A5.src _ S1
    have RX : H4 R = none := hR
    have Ra := S4.new1 hR
    have I5 := I4.same (hid_same (a := a) (d := a) s5)
    have e5 := hid_same (a := a) (d := a) s5 _ _ e4
    have eR5 : hid a a H5 R = some (.lst (xs.map It.lv)) := hid_at eR Ra Ra
    have L5 := I5.low.lays
    have nR := L5.nest eR
    have sh := Shw.nest (m := 8) F.nice (by rw [List.length_map]; exact lx)
    clear S4 A4 e4 I4 lL s5
    have low5 := I5.low
    -- passed, due
    refine ⟨_, rfl, R, _, rfl, dp_nest nR, sh.show1, sh.plain, Nat.le_trans sh.deep (by decide), sh.fits (by decide), ?_⟩
    refine ⟨_, rfl, a, D, xs.map It.t, xs.map It.ps, rfl, (hid_get e5).1, S5.obj, I5.pairs, by rw [List.length_map]; omega, F.pt, F.small, fun H6 d s6 f6 nda => ⟨_, _, rfl, ?_⟩⟩
    have nd := nest_lowL nda
    -- normal_form(layers) != due
    refine ⟨_, rfl, R, _, rfl, nR.same s6, F.fit.ok, F.fit.few, F.fit.small, F.fit.short, fun H7 r7 u7 M7 s7 f7 v7 nf7 fl7 => ?_⟩
    have t7 := s6.trans s7
    refine ⟨_, rfl, _, _, dp_nest v7.nest, dp_nest (nd.same s7), shaped_lays _, shaped_lays _, _, rfl, ne_lays (nf_unique nf7 F.nf (fl7.trans F.flat.symm)) ?_⟩
    -- not same_policy(_law_sorted(layers), layers)
    refine ⟨_, rfl, R, _, rfl, nR.same t7, by rw [List.length_map]; omega, F.fit.ok, fun H8 o8 Fs s8 f8 n8 pm fs => ?_⟩
    have t8 := t7.trans s8
    have okS : ∀ L ∈ Fs, L.ok = true := fun L hL => F.fit.ok L (pm.mem_iff.mp hL)
    have atS : attOf Fs = attOf (xs.map It.L) := by
      have a1 := flatL_len _ _ rfl okS
      have a2 := flatL_len _ _ rfl F.fit.ok
      rw [← a1, ← a2, fs]
    refine ⟨_, rfl, o8, R, _, _, rfl, n8, nR.same t8, okS, F.fit.ok, by rw [pm.length_eq]; exact F.fit.few, F.fit.few, by rw [atS]; exact F.fit.small, F.fit.small, (fun ns hns => F.fit.short ns (pm.mem_iff.mp hns)), F.fit.short, fun H9 s9 => ?_⟩
    rw [fs, decide_eq_true rfl]
    have t9 := t8.trans s9
    refine ⟨_, rfl, iteF ?_⟩
    -- repr(layers) != passed
    refine ⟨_, rfl, R, _, rfl, dp_nest (nR.same t9), sh.show1, sh.plain, Nat.le_trans sh.deep (by decide), sh.fits (by decide), _, rfl, rfl, _, rfl, ne_str rfl ?_⟩
    have t9n := s7.trans (s8.trans s9)
    have nd9 := nd.same t9n
    clear v7 nf7 fl7 f7 n8 f8 pm fs okS atS s7 t7 s8 t8 s9
    -- normal_form(due) != due
    refine ⟨_, rfl, d, _, rfl, nd9, F.fitD.ok, F.fitD.few, F.fitD.small, F.fitD.short, fun Ha ra ua Ma sa2 fa va nfa fla => ?_⟩
    have ta := t9.trans sa2
    refine ⟨_, rfl, _, _, dp_nest va.nest, dp_nest (nd9.same sa2), shaped_lays _, shaped_lays _, _, rfl, ne_lays (nf_unique nfa F.nf fla) ?_⟩
    -- not same_policy(due, layers)
    refine ⟨_, rfl, _, rfl, d, R, _, _, rfl, nd9.same sa2, nR.same ta, F.fitD.ok, F.fit.ok, F.fitD.few, F.fit.few, F.fitD.small, F.fit.small, F.fitD.short, F.fit.short, fun Hb sb => ?_⟩
    rw [F.flat, decide_eq_true rfl]
    have tb := ta.trans sb
    refine ⟨_, rfl, iteF ?_⟩
    -- layers != []
    refine ⟨_, rfl, Nat.zero_le _, fun z hz => ?_⟩
    have sz := same_new (o := .lst []) hz
    refine ⟨_, _, dp_nest ((nR.same tb).same sz), dp_nest (Ls := []) ((Lays.none _).nest upd_same), shaped_lays _, shaped_lays _, _, rfl, ?_⟩
    generalize upd Hb z (.lst []) = Hc at *
    have tc := tb.trans sz
    have Sc := S5.same tc
    have Ac := A5.trans (Rdv.of tc) (Int.le_refl _)
    have Ic := I5.same (hid_same (a := a) (d := a) tc)
    have ec := hid_same (a := a) (d := a) tc _ _ e5
    have eRc := hid_same (a := a) (d := a) tc _ _ eR5
    have nc := nda.same (hid_same (a := a) (d := a) (t9n.trans (sa2.trans (sb.trans sz))))
    clear va nfa fla fa nd9 sa2 sb sz tb ta t9 tc nd t9n nda s6 f6 low5 nR L5 I5 e5 eR5 S5 A5
    rw [eqv_lays]
    by_cases em : xs.map It.L = []
    · rw [laysB_iff.mpr em]
      exact iteF ⟨⟨_, _, _, _, _, _, _, _, _, _, _, _, rfl⟩, Ac.mono (by omega)⟩
    rw [show laysB (xs.map It.L) [] = false from Bool.eq_false_iff.mpr fun z => em (laysB_iff.mp z)]
    refine iteT ?_
    have x0 : 0 < xs.length := List.length_pos_iff.mpr fun z => em (by rw [z]; rfl)
    have lLv : (xs.map It.lv).length = xs.length := List.length_map ..
    -- at, other
    refine ⟨_, rfl, _, rfl, R, _, rfl, .inl (sql (hid_get eRc).1), a, _, (xs.length : Int), by rw [lLv]; rfl, Sc, by omega, by omega, by omega, fun Hd ka Ad lk uk => ?_⟩
    obtain ⟨k, rfl⟩ : ∃ k : Nat, ka = (k : Int) := ⟨ka.toNat, by omega⟩
    have hk : k < xs.length := by omega
    have Sd := Ad.src _ Sc
    have eRd := Ad.same _ _ eRc
    refine ⟨_, rfl, R, _, rfl, .inl (sql (hid_get eRd).1), fun o ho => ?_⟩
    have so := same_new (o := .lst (xs.map It.lv)) ho
    have oa := Sd.new1 ho
    have eo : hid a a (upd Hd o (.lst (xs.map It.lv))) o = some (.lst (xs.map It.lv)) := hid_at upd_same oa oa
    generalize upd Hd o (.lst (xs.map It.lv)) = He at *
    have Se := Sd.same so
    have kso := Ad.same.trans (hid_same (a := a) (d := a) so)
    have Ie := Ic.same kso
    have eRe := kso _ _ eRc
    have gk : (xs.map It.lv)[k]? = some xs[k].lv := by rw [List.getElem?_map, List.getElem?_eq_getElem hk]; rfl
    have gL : (xs.map It.L)[k]? = some xs[k].L := by rw [List.getElem?_map, List.getElem?_eq_getElem hk]; rfl
    have lyk := Ie.lays.2 _ _ _ gk gL
    have bgk := (Ie.lps xs[k] (List.getElem_mem hk)).big
    generalize xs[k].lv = lv at *
    generalize xs[k].L = L at *
    refine ⟨_, rfl, _, rfl, _, rfl, R, _, (k : Int), lv, rfl, rfl, sql (hid_get eRe).1, atI_nat gk, a, _, lv, L, rfl, Se, by omega, lyk, bgk, fun Hf v' L' Af ly' bg' ne' => ?_⟩
    have eof := Af.same _ _ eo
    have If := Ie.same Af.same
    refine ⟨_, rfl, _, rfl, o, _, (k : Int), k, rfl, rfl, (hid_get eof).1, by rw [← Int.toNat_natCast k]; exact ixN_at (by omega) (by rw [lLv]; omega), ?_⟩
    have lf := If.lays
    have hu : ∀ u ∈ xs.map It.lv, ∃ x, u = V.ref x := fun u hu => by
      obtain ⟨x, _, e, _⟩ := lf.ref hu
      exact ⟨x, e⟩
    have vo := lay_off (hid_get eof).1 hu (lay_low ly') fun ns e => by
      have := bg'.2
      rw [e] at this
      exact this.1
    have lfo : ∀ x, V.ref x ∈ xs.map It.lv → x ≠ o := fun x hx => by
      obtain ⟨y, hy, e⟩ := List.mem_map.mp hx
      obtain ⟨_, _, _, _, h3, _, h5⟩ := If.low y hy
      exact lay_off (hid_get eof).1 hu h3 (fun ns e => by
        have := h5.big.2
        rw [e] at this
        exact this.1) x e
    have Ag : Rdv a 3 Hd (upd Hf o (.lst ((xs.map It.lv).set k v'))) := (((Rdv.of so).trans Af (Int.le_refl _)).mut Sd ho).mono (by omega)
    have Lg : Lays (upd Hf o (.lst ((xs.map It.lv).set k v'))) ((xs.map It.lv).set k v') ((xs.map It.L).set k L') :=
      ((lf.carry fun x _ _ e => (hid_get e).1).carry fun x _ hx e => by rw [upd_ne (lfo x hx)]; exact e).set k ((lay_low ly').keep vo)
    have eog : upd Hf o (.lst ((xs.map It.lv).set k v')) o = some (.lst ((xs.map It.lv).set k v')) := upd_same
    generalize upd Hf o (.lst ((xs.map It.lv).set k v')) = Hg at *
    have Ig := (Ic.same Ad.same).same Ag.same
    have eRg := Ag.same _ _ eRd
    have nRg := Ig.low.lays.nest (hid_get eRg).1
    have okO : ∀ M ∈ (xs.map It.L).set k L', M.ok = true ∧ M.cnt < 2 ^ 100 ∧ ∀ ns, M = .pol ns → ns.length ≤ 60 := fun M hM => by
      rcases List.mem_or_eq_of_mem_set hM with z | rfl
      · have := F.nice M z
        refine ⟨this.1, nice_cnt this, fun ns e => ?_⟩
        rw [e] at this
        exact this.2.1
      · refine ⟨bg'.1, ?_, fun ns e => ?_⟩
        · have := bg'.2
          cases M with
          | pol ns => have := this.2; show (ns.length : Int) + 1 < 2 ^ 100; omega
          | con w n => have : n ≤ 100000000000000000000 := this; show n < 2 ^ 100; omega
        · have := bg'.2
          rw [e] at this
          exact this.2
    have lO : ((xs.map It.L).set k L').length ≤ 8 := by rw [List.length_set, List.length_map]; exact lx
    have smO : (attOf ((xs.map It.L).set k L')).natAbs < 2 ^ 9000 := by
      have := (attOf_lt _ ((xs.map It.L).set k L') rfl fun M hM => ⟨(okO M hM).1, (okO M hM).2.1⟩).2
      exact Nat.lt_of_lt_of_le this (Nat.pow_le_pow_right (by decide) (by omega))
    have neO := flat_set gL F.fit.ok bg'.1 ne'
    -- same_policy(other, layers)
    refine ⟨_, rfl, _, rfl, o, R, _, _, rfl, Lg.nest eog, nRg, (fun M hM => (okO M hM).1), F.fit.ok, by omega, F.fit.few, smO, F.fit.small, (fun ns hns => by have := (okO _ hns).2.2 ns rfl; omega), F.fit.short, fun Hh sh' => ?_⟩
    rw [decide_eq_false neO]
    refine ⟨_, rfl, iteF ?_⟩
    have kh := Ag.same.trans (hid_same (a := a) (d := a) sh')
    have Ih := (Ic.same Ad.same).same kh
    have eDh := kh _ _ (Ad.same _ _ ec)
    have eRh := kh _ _ eRd
    have nch := (nc.same Ad.same).same kh
    have Ah : Rdv a 10 Hc Hh := (Ad.trans (Ag.trans (Rdv.of sh') (Int.le_refl _)) (Int.le_refl _)).mono (by omega)
    have Sh := Ah.src _ Sc
    have k2 : (k : Int) + 2 = ((k + 2 : Nat) : Int) := by omega
    clear Ig eRg nRg okO lO smO neO Lg eog lfo vo hu lf If eof ly' bg' ne' lyk bgk gk gL Ie eRe kso Se eo oa so ho
    -- turned
    refine ⟨_, rfl, _, rfl, _, rfl, D, _, rfl, sql (hid_get eDh).1, fun p1 hp1 => ?_⟩
    rw [cut_n, ← List.map_take]
    have z1 := same_new (o := .lst ((xs.take k).map It.t)) hp1
    have g1 := upd_same (H := Hh) (a := p1) (o := .lst ((xs.take k).map It.t))
    generalize upd Hh p1 (.lst ((xs.take k).map It.t)) = J1 at *
    refine ⟨_, rfl, _, rfl, _, rfl, _, rfl, _, _, rfl, rfl, _, rfl, D, _, rfl, sql (z1 _ _ (hid_get eDh).1), fun p2 hp2 => ?_⟩
    rw [k2, cut_mid, Nat.add_sub_cancel_left, ← List.map_drop, ← List.map_take]
    have z2 := same_new (o := .lst (((xs.drop k).take 2).map It.t)) hp2
    have g2 := upd_same (H := J1) (a := p2) (o := .lst (((xs.drop k).take 2).map It.t))
    generalize upd J1 p2 (.lst (((xs.drop k).take 2).map It.t)) = J2 at *
    refine ⟨p2, _, rfl, sql g2, fun p3 hp3 => ?_⟩
    rw [← List.map_reverse]
    have z3 := same_new (o := .lst (((xs.drop k).take 2).reverse.map It.t)) hp3
    have g3 := upd_same (H := J2) (a := p3) (o := .lst (((xs.drop k).take 2).reverse.map It.t))
    generalize upd J2 p3 (.lst (((xs.drop k).take 2).reverse.map It.t)) = J3 at *
    refine ⟨p1, p3, _, _, rfl, rfl, z3 _ _ (z2 _ _ g1), g3, size_le (by rw [List.length_map, List.length_map, List.length_reverse, List.length_take, List.length_take]; omega), fun p4 hp4 => ?_⟩
    rw [← List.map_append]
    have z4 := same_new (o := .lst ((xs.take k ++ ((xs.drop k).take 2).reverse).map It.t)) hp4
    have g4 := upd_same (H := J3) (a := p4) (o := .lst ((xs.take k ++ ((xs.drop k).take 2).reverse).map It.t))
    generalize upd J3 p4 (.lst ((xs.take k ++ ((xs.drop k).take 2).reverse).map It.t)) = J4 at *
    have q4 := z1.trans (z2.trans (z3.trans z4))
    refine ⟨_, rfl, _, rfl, _, _, rfl, rfl, _, rfl, D, _, rfl, sql (q4 _ _ (hid_get eDh).1), fun p5 hp5 => ?_⟩
    rw [k2, cut_to, ← List.map_drop]
    have z5 := same_new (o := .lst ((xs.drop (k + 2)).map It.t)) hp5
    have g5 := upd_same (H := J4) (a := p5) (o := .lst ((xs.drop (k + 2)).map It.t))
    generalize upd J4 p5 (.lst ((xs.drop (k + 2)).map It.t)) = J5 at *
    refine ⟨p4, p5, _, _, rfl, rfl, z5 _ _ g4, g5, size_le (by rw [List.length_map, List.length_map, List.length_append, List.length_reverse, List.length_take, List.length_take, List.length_drop, List.length_drop]; omega), fun W hW => ?_⟩
    rw [← List.map_append]
    have z6 := same_new (o := .lst ((xs.take k ++ ((xs.drop k).take 2).reverse ++ xs.drop (k + 2)).map It.t)) hW
    have g6 := upd_same (H := J5) (a := W) (o := .lst ((xs.take k ++ ((xs.drop k).take 2).reverse ++ xs.drop (k + 2)).map It.t))
    have ysub : ∀ y ∈ xs.take k ++ ((xs.drop k).take 2).reverse ++ xs.drop (k + 2), y ∈ xs := fun y hy => by
      rcases List.mem_append.mp hy with z | z
      · rcases List.mem_append.mp z with z | z
        · exact List.mem_of_mem_take z
        · exact List.mem_of_mem_drop (List.mem_of_mem_take (List.mem_reverse.mp z))
      · exact List.mem_of_mem_drop z
    have ylen : (xs.take k ++ ((xs.drop k).take 2).reverse ++ xs.drop (k + 2)).length ≤ 8 := by
      rw [List.length_append, List.length_append, List.length_reverse, List.length_take, List.length_take, List.length_drop, List.length_drop]
      omega
    generalize xs.take k ++ ((xs.drop k).take 2).reverse ++ xs.drop (k + 2) = ys at *
    generalize upd J5 W (.lst (ys.map It.t)) = J6 at *
    have q6 := q4.trans (z5.trans z6)
    have Iy : Its (hid a a J6) ys := fun y hy => (Ih.same (hid_same (a := a) (d := a) q6)) y (ysub y hy)
    have G := fx Iy.lps ylen
    have S6 := Sh.same q6
    have Wa := ((Sh.same q4).same z5).new1 hW
    have lW := Iy.low
    clear z1 z2 z3 z4 z5 z6 g1 g2 g3 g4 g5 q4 hp1 hp2 hp3 hp4 hp5 ysub
    -- same_policy([layer ..], layers) != (_law_due(turned) == due)
    refine ⟨_, rfl, W, rfl, ⟨_, sql g6⟩, fun X hX => ?_⟩
    refine lc_list (xs := ys.map It.t) (fun j H' => Same J6 H' ∧ H' X = some (.lst ((ys.take j).map It.lv))) ⟨same_new hX, upd_same⟩ (fun j H' _ h => sql (h.1 _ _ g6)) (fun j v H5 hv h => ?_) (fun H5 h => ?_)
    · obtain ⟨s5, eX⟩ := h
      rw [List.getElem?_map] at hv
      obtain ⟨x, hx, rfl⟩ := Option.map_eq_some_iff.mp hv
      obtain ⟨t, pa, et, ht, _⟩ := lW x (List.mem_of_getElem? hx)
      rw [et]
      have hj : j < ys.length := (List.getElem?_eq_some_iff.mp hx).1
      refine ⟨t, _, rfl, sqt (s5 _ _ ht), rfl, _, _, rfl, _, _, rfl, rfl, rfl, yes_thn ⟨_, rfl, _, eX, size_lt (by rw [List.length_map, List.length_take]; omega), same_keep s5 hX, ?_⟩⟩
      rw [upd_same, List.take_add_one, hx, Option.toList_some, List.map_append]
      rfl
    obtain ⟨s5, eX⟩ := h
    rw [List.length_map, List.take_length] at eX
    have q7 := q6.trans s5
    have nX := (lW.same s5).lays.nest eX
    have nR7 := (Ih.low.lays.nest (hid_get eRh).1).same q7
    refine ⟨_, rfl, X, R, _, _, rfl, nX, nR7, G.fit.ok, F.fit.ok, G.fit.few, F.fit.few, G.fit.small, F.fit.small, G.fit.short, F.fit.short, fun J8 s8 => ?_⟩
    have q8 := q7.trans s8
    have Iy8 := Iy.same (hid_same (a := a) (d := a) (s5.trans s8))
    refine ⟨_, rfl, a, W, ys.map It.t, ys.map It.ps, rfl, s8 _ _ (s5 _ _ g6), (Sh.same q8).obj, Iy8.pairs, by rw [List.length_map]; omega, G.pt, G.small, fun J9 e s9 f9 ne9 => ?_⟩
    refine ⟨_, rfl, _, _, dp_nest (nest_lowL ne9), dp_nest (((nest_lowL nch).same q8).same s9), shaped_lays _, shaped_lays _, rfl, _, rfl, ne_val (by rw [eqv_lays, nf_eq G.nf F.nf G.flat F.flat]) ?_⟩
    exact ⟨⟨_, _, _, _, _, _, _, _, _, _, _, _, rfl⟩, (Ac.trans (Ah.trans (Rdv.of (q8.trans s9)) (Int.le_refl _)) (Int.le_refl _)).mono (by omega)⟩
  · obtain ⟨⟨y2, y3, y4, y5, y6, y7, y8, y9, y10, y11, y12, y13, rfl⟩, A2⟩ := h
    have S2 := A2.src 0 S1
    have p20 : (10 : Int) ^ (20 : Int).toNat = 100000000000000000000 := by decide
    refine ⟨_, _, rfl, rfl, ⟨by decide, by decide, by decide⟩, _, _, rfl, rfl, size_le (by show 2 ≤ 100000; decide), fun t ht => ?_⟩
    rw [p20]
    obtain ⟨n, hn⟩ : ∃ n : Int, 100000000000000000000 - 1 = n := ⟨_, rfl⟩
    have bits : CPowW n 2 ∧ CPowW n 8 := by
      subst hn
      exact ⟨⟨by decide, by decide +kernel⟩, ⟨by decide, by decide +kernel⟩⟩
    have n2 : 2 ≤ n := by omega
    have nn : n < 1000000000000000000000 := by omega
    dsimp only
    rw [hn]
    have st := same_new (o := .tup [.int 4, .int n]) ht
    have et := upd_same (H := H2) (a := t) (o := .tup [.int 4, .int n])
    have ta := S2.new1 ht
    have et : hid a a (upd H2 t (.tup [.int 4, .int n])) t = some (.tup [.int 4, .int n]) := hid_at et ta ta
    generalize upd H2 t (.tup [.int 4, .int n]) = H3 at *
    have S3 := S2.same st
    refine ⟨size_le (by show 1 ≤ 100000; decide), fun o ho => ?_⟩
    have so := same_new (o := .lst [.ref t]) ho
    have eo := upd_same (H := H3) (a := o) (o := .lst [.ref t])
    generalize upd H3 o (.lst [.ref t]) = H4 at *
    have S4 := S3.same so
    refine ⟨o, 8, _, rfl, rfl, eo, by decide, by decide, size_le (by show 1 * 8 ≤ 100000; decide), fun f hf => ?_⟩
    rw [rep_flat, show (8 : Int).toNat = 8 from rfl]
    have sf := same_new (o := .lst (List.replicate 8 (.ref t))) hf
    have fa := S4.new1 hf
    have ef : hid a a (upd H4 f (.lst (List.replicate 8 (.ref t)))) f = some (.lst (List.replicate 8 (.ref t))) := hid_at upd_same fa fa
    generalize upd H4 f (.lst (List.replicate 8 (.ref t))) = H5 at *
    have S5 := S4.same sf
    have et5 := hid_same (a := a) (d := a) (so.trans sf) _ _ et
    have nc : (Lay.con 4 n).nice := Lay.nice_con (by decide) (by decide) (by omega) nn
    have lays : ∀ (G : Hp) (k : Nat), hid a a G t = some (.tup [.int 4, .int n]) → Lays G (List.replicate k (.ref t)) (List.replicate k (.con 4 n)) := fun G k hG => by
      refine ⟨by rw [List.length_replicate, List.length_replicate], fun i v L x y => ?_⟩
      rw [List.eq_of_mem_replicate (List.mem_of_getElem? x), List.eq_of_mem_replicate (List.mem_of_getElem? y)]
      exact ⟨t, rfl, (hid_get hG).1⟩
    have fits : ∀ k, k ≤ 80 → Fit (List.replicate k (.con 4 n)) := fun k hk => fit_nice (fun L hL => by rw [List.eq_of_mem_replicate hL]; exact nc) (by rw [List.length_replicate]; exact hk)
    have nfk : ∀ k, 1 ≤ k → NF [Lay.con 4 (n ^ k)] := fun k hk => by
      refine ⟨fun M hM => ?_, fun i w n w' m x y => ?_⟩
      · rw [List.mem_singleton.mp hM]
        obtain ⟨j, rfl⟩ : ∃ j, k = j + 1 := ⟨k - 1, by omega⟩
        have p1 : 0 < n ^ j := Int.pow_pos (by omega)
        have p2 : 2 * 1 ≤ n * n ^ j := Int.mul_le_mul n2 (by omega) (by decide) (by omega)
        refine ⟨by decide, ?_⟩
        rw [Int.pow_succ, Int.mul_comm]
        exact p2
      · rw [List.getElem?_eq_none (show [Lay.con 4 _].length ≤ i + 1 from Nat.succ_le_succ (Nat.zero_le i))] at y
        cases y
    -- normal_form(far[:2])
    refine ⟨_, rfl, _, rfl, f, _, rfl, sql (hid_get ef).1, fun g hg => ?_⟩
    rw [show cutV (List.replicate 8 (V.ref t)) none (some 2) = List.replicate 2 (V.ref t) from (cut_n _ 2).trans (by rw [List.take_replicate]; rfl)]
    have sg := same_new (o := .lst (List.replicate 2 (.ref t))) hg
    have eg := upd_same (H := H5) (a := g) (o := .lst (List.replicate 2 (.ref t)))
    generalize upd H5 g (.lst (List.replicate 2 (.ref t))) = H6 at *
    have F2 := fits 2 (by decide)
    refine ⟨g, _, rfl, (lays H6 2 (hid_same sg _ _ et5)).nest eg, F2.ok, F2.few, F2.small, F2.short, fun H7 r us Ms s7 fr v7 nf7 fl7 => ?_⟩
    have S7 := (S5.same sg).same s7
    have e20 : (10 : Int) ^ (20 : Int).toNat - 1 = n := by rw [p20, hn]
    refine ⟨_, _, rfl, rfl, ⟨by decide, by decide, by decide⟩, _, _, rfl, rfl, _, _, rfl, rfl, by rw [e20]; exact bits.1, size_le (by show 2 ≤ 100000; decide), fun t2 ht2 => ?_⟩
    dsimp only
    rw [e20, show (2 : Int).toNat = 2 from rfl]
    have st2 := same_new (o := .tup [.int 4, .int (n ^ 2)]) ht2
    have et2 := upd_same (H := H7) (a := t2) (o := .tup [.int 4, .int (n ^ 2)])
    generalize upd H7 t2 (.tup [.int 4, .int (n ^ 2)]) = H8 at *
    refine ⟨size_le (by show 1 ≤ 100000; decide), fun o2 ho2 => ?_⟩
    have so2 := same_new (o := .lst [.ref t2]) ho2
    have eo2 := upd_same (H := H8) (a := o2) (o := .lst [.ref t2])
    generalize upd H8 o2 (.lst [.ref t2]) = H9 at *
    refine ⟨_, _, dp_nest (v7.same (st2.trans so2)).nest, dp_nest (nest_of eo2 (.cons (show LayAt _ (V.ref t2) (.con 4 (n ^ 2)) from ⟨t2, rfl, so2 _ _ et2⟩) .nil)), shaped_lays _, shaped_lays _, _, rfl, ne_lays (nf_unique nf7 (nfk 2 (by decide)) (fl7.trans (flat_repC (by decide) (by omega) 2))) ?_⟩
    have s59 := sg.trans (s7.trans (st2.trans so2))
    have S9 := S5.same s59
    refine ⟨_, rfl, a, _, rfl, S9, by omega, fun Ha Aa => ⟨_, rfl, iteF ?_⟩⟩
    have ka := (hid_same (a := a) (d := a) s59).trans Aa.same
    have F8 := fits 8 (by decide)
    refine ⟨_, rfl, f, _, rfl, (lays Ha 8 (ka _ _ et5)).nest (hid_get (ka _ _ ef)).1, F8.ok, F8.few, F8.small, F8.short, fun Hb r2 us2 Ms2 sb fr2 v2 nf2 fl2 => ?_⟩
    refine ⟨_, _, rfl, rfl, ⟨by decide, by decide, by decide⟩, _, _, rfl, rfl, _, _, rfl, rfl, by rw [e20]; exact bits.2, size_le (by show 2 ≤ 100000; decide), fun t3 ht3 => ?_⟩
    dsimp only
    rw [e20, show (8 : Int).toNat = 8 from rfl]
    have st3 := same_new (o := .tup [.int 4, .int (n ^ 8)]) ht3
    have et3 := upd_same (H := Hb) (a := t3) (o := .tup [.int 4, .int (n ^ 8)])
    generalize upd Hb t3 (.tup [.int 4, .int (n ^ 8)]) = Hc at *
    refine ⟨size_le (by show 1 ≤ 100000; decide), fun o3 ho3 => ?_⟩
    have so3 := same_new (o := .lst [.ref t3]) ho3
    have eo3 := upd_same (H := Hc) (a := o3) (o := .lst [.ref t3])
    generalize upd Hc o3 (.lst [.ref t3]) = Hd at *
    refine ⟨_, _, dp_nest (v2.same (st3.trans so3)).nest, dp_nest (nest_of eo3 (.cons (show LayAt _ (V.ref t3) (.con 4 (n ^ 8)) from ⟨t3, rfl, so3 _ _ et3⟩) .nil)), shaped_lays _, shaped_lays _, ?_⟩
    rw [eqv_lays, laysB_iff.mpr (nf_unique nf2 (nfk 8 (by decide)) (fl2.trans (flat_repC (by decide) (by omega) 8)))]
    exact q _

end
end Rn
namespace Rn
open PySem PySem.Spec PyProof.Rows L2
theorem all_mk {l : PySem.W.OpenLaw} {w : World} {K : PySem.W.Frag} {h : Heap} {mg : Str → Option Value} {fa f0 f1 f2 f3 f4 f5 f6 f7 f8 f9 f10 f11 f12 f13 f14 f15 f16 f17 f18 f19 f20 f21 f22 f23 f24 f25 f26 f27 f28 f29 : Addr} (X : K.In h) (G : h.Ns mainGlobals mg) (hfa : mg "law" = some (.ref fa))
    {od0 an0 od1 an1 od2 an2 od3 an3 od4 an4 od5 an5 od6 an6 od7 an7 od8 an8 od9 an9 od10 an10 od11 an11 od12 an12 od13 an13 od14 an14 od15 an15 od16 an16 od17 an17 od18 an18 od19 an19 od20 an20 od21 an21 od22 an22 od23 an23 od24 an24 od25 an25 od26 an26 od27 an27 od28 an28 od29 an29 : Option Addr} {sl0 sl1 sl2 sl3 sl4 sl5 sl6 sl7 sl8 sl9 sl10 sl11 sl12 sl13 sl14 sl15 sl16 sl17 sl18 sl19 sl20 sl21 sl22 sl23 sl24 sl25 sl26 sl27 sl28 sl29 : Array (Option Value)} {oc0 kV0 dc0 pm0 cd0 ct0 oc1 kV1 dc1 pm1 cd1 ct1 oc2 kV2 dc2 pm2 cd2 ct2 oc3 kV3 dc3 pm3 cd3 ct3 oc4 kV4 dc4 pm4 cd4 ct4 oc5 kV5 dc5 pm5 cd5 ct5 oc6 kV6 dc6 pm6 cd6 ct6 oc7 kV7 dc7 pm7 cd7 ct7 oc8 kV8 dc8 pm8 cd8 ct8 oc9 kV9 dc9 pm9 cd9 ct9 oc10 kV10 dc10 pm10 cd10 ct10 oc11 kV11 dc11 pm11 cd11 ct11 oc12 kV12 dc12 pm12 cd12 ct12 oc13 kV13 dc13 pm13 cd13 ct13 oc14 kV14 dc14 pm14 cd14 ct14 oc15 kV15 dc15 pm15 cd15 ct15 oc16 kV16 dc16 pm16 cd16 ct16 oc17 kV17 dc17 pm17 cd17 ct17 oc18 kV18 dc18 pm18 cd18 ct18 oc19 kV19 dc19 pm19 cd19 ct19 oc20 kV20 dc20 pm20 cd20 ct20 oc21 kV21 dc21 pm21 cd21 ct21 oc22 kV22 dc22 pm22 cd22 ct22 oc23 kV23 dc23 pm23 cd23 ct23 oc24 kV24 dc24 pm24 cd24 ct24 oc25 kV25 dc25 pm25 cd25 ct25 oc26 kV26 dc26 pm26 cd26 ct26 oc27 kV27 dc27 pm27 cd27 ct27 oc28 kV28 dc28 pm28 cd28 ct28 oc29 kV29 dc29 pm29 cd29 ct29 : Value}
    (a0 : PySem.W.nsIn K mainGlobals "first_negative" = some (some (.ref f0))) (l0 : K.lookup f0 = some ⟨oc0, od0, .func (PySem.W.fnOf "first_negative" "first_negative" (defArgs s_first_negative) (defBody s_first_negative) (defScope s_first_negative) .none kV0 dc0 pm0 an0 cd0 ct0), sl0⟩) (c0 : PySem.W.codeIn K cd0 "first_negative" = true) (k0 : PySem.W.keepIn K (.ref f0) = true)
    (a1 : PySem.W.nsIn K mainGlobals "check_waits" = some (some (.ref f1))) (l1 : K.lookup f1 = some ⟨oc1, od1, .func (PySem.W.fnOf "check_waits" "check_waits" (defArgs s_check_waits) (defBody s_check_waits) (defScope s_check_waits) .none kV1 dc1 pm1 an1 cd1 ct1), sl1⟩) (c1 : PySem.W.codeIn K cd1 "check_waits" = true) (k1 : PySem.W.keepIn K (.ref f1) = true)
    (a2 : PySem.W.nsIn K mainGlobals "is_valid_layer" = some (some (.ref f2))) (l2 : K.lookup f2 = some ⟨oc2, od2, .func (PySem.W.fnOf "is_valid_layer" "is_valid_layer" (defArgs s_is_valid_layer) (defBody s_is_valid_layer) (defScope s_is_valid_layer) .none kV2 dc2 pm2 an2 cd2 ct2), sl2⟩) (c2 : PySem.W.codeIn K cd2 "is_valid_layer" = true) (k2 : PySem.W.keepIn K (.ref f2) = true)
    (a3 : PySem.W.nsIn K mainGlobals "check_nesting" = some (some (.ref f3))) (l3 : K.lookup f3 = some ⟨oc3, od3, .func (PySem.W.fnOf "check_nesting" "check_nesting" (defArgs s_check_nesting) (defBody s_check_nesting) (defScope s_check_nesting) .none kV3 dc3 pm3 an3 cd3 ct3), sl3⟩) (c3 : PySem.W.codeIn K cd3 "check_nesting" = true) (k3 : PySem.W.keepIn K (.ref f3) = true)
    (a4 : PySem.W.nsIn K mainGlobals "repeats" = some (some (.ref f4))) (l4 : K.lookup f4 = some ⟨oc4, od4, .func (PySem.W.fnOf "repeats" "repeats" (defArgs s_repeats) (defBody s_repeats) (defScope s_repeats) .none kV4 dc4 pm4 an4 cd4 ct4), sl4⟩) (c4 : PySem.W.codeIn K cd4 "repeats" = true) (k4 : PySem.W.keepIn K (.ref f4) = true)
    (a5 : PySem.W.nsIn K mainGlobals "is_inner_number" = some (some (.ref f5))) (l5 : K.lookup f5 = some ⟨oc5, od5, .func (PySem.W.fnOf "is_inner_number" "is_inner_number" (defArgs s_is_inner_number) (defBody s_is_inner_number) (defScope s_is_inner_number) .none kV5 dc5 pm5 an5 cd5 ct5), sl5⟩) (c5 : PySem.W.codeIn K cd5 "is_inner_number" = true) (k5 : PySem.W.keepIn K (.ref f5) = true)
    (a6 : PySem.W.nsIn K mainGlobals "smallest_inner_number" = some (some (.ref f6))) (l6 : K.lookup f6 = some ⟨oc6, od6, .func (PySem.W.fnOf "smallest_inner_number" "smallest_inner_number" (defArgs s_smallest_inner_number) (defBody s_smallest_inner_number) (defScope s_smallest_inner_number) .none kV6 dc6 pm6 an6 cd6 ct6), sl6⟩) (c6 : PySem.W.codeIn K cd6 "smallest_inner_number" = true) (k6 : PySem.W.keepIn K (.ref f6) = true)
    (a7 : PySem.W.nsIn K mainGlobals "list_parts" = some (some (.ref f7))) (l7 : K.lookup f7 = some ⟨oc7, od7, .func (PySem.W.fnOf "list_parts" "list_parts" (defArgs s_list_parts) (defBody s_list_parts) (defScope s_list_parts) .none kV7 dc7 pm7 an7 cd7 ct7), sl7⟩) (c7 : PySem.W.codeIn K cd7 "list_parts" = true) (k7 : PySem.W.keepIn K (.ref f7) = true)
    (a8 : PySem.W.nsIn K mainGlobals "layer_parts" = some (some (.ref f8))) (l8 : K.lookup f8 = some ⟨oc8, od8, .func (PySem.W.fnOf "layer_parts" "layer_parts" (defArgs s_layer_parts) (defBody s_layer_parts) (defScope s_layer_parts) .none kV8 dc8 pm8 an8 cd8 ct8), sl8⟩) (c8 : PySem.W.codeIn K cd8 "layer_parts" = true) (k8 : PySem.W.keepIn K (.ref f8) = true)
    (a9 : PySem.W.nsIn K mainGlobals "same_constant" = some (some (.ref f9))) (l9 : K.lookup f9 = some ⟨oc9, od9, .func (PySem.W.fnOf "same_constant" "same_constant" (defArgs s_same_constant) (defBody s_same_constant) (defScope s_same_constant) .none kV9 dc9 pm9 an9 cd9 ct9), sl9⟩) (c9 : PySem.W.codeIn K cd9 "same_constant" = true) (k9 : PySem.W.keepIn K (.ref f9) = true)
    (a10 : PySem.W.nsIn K mainGlobals "merged" = some (some (.ref f10))) (l10 : K.lookup f10 = some ⟨oc10, od10, .func (PySem.W.fnOf "merged" "merged" (defArgs s_merged) (defBody s_merged) (defScope s_merged) .none kV10 dc10 pm10 an10 cd10 ct10), sl10⟩) (c10 : PySem.W.codeIn K cd10 "merged" = true) (k10 : PySem.W.keepIn K (.ref f10) = true)
    (a11 : PySem.W.nsIn K mainGlobals "normal_form" = some (some (.ref f11))) (l11 : K.lookup f11 = some ⟨oc11, od11, .func (PySem.W.fnOf "normal_form" "normal_form" (defArgs s_normal_form) (defBody s_normal_form) (defScope s_normal_form) .none kV11 dc11 pm11 an11 cd11 ct11), sl11⟩) (c11 : PySem.W.codeIn K cd11 "normal_form" = true) (k11 : PySem.W.keepIn K (.ref f11) = true)
    (a12 : PySem.W.nsIn K mainGlobals "is_unsplittable" = some (some (.ref f12))) (l12 : K.lookup f12 = some ⟨oc12, od12, .func (PySem.W.fnOf "is_unsplittable" "is_unsplittable" (defArgs s_is_unsplittable) (defBody s_is_unsplittable) (defScope s_is_unsplittable) .none kV12 dc12 pm12 an12 cd12 ct12), sl12⟩) (c12 : PySem.W.codeIn K cd12 "is_unsplittable" = true) (k12 : PySem.W.keepIn K (.ref f12) = true)
    (a13 : PySem.W.nsIn K mainGlobals "same_policy" = some (some (.ref f13))) (l13 : K.lookup f13 = some ⟨oc13, od13, .func (PySem.W.fnOf "same_policy" "same_policy" (defArgs s_same_policy) (defBody s_same_policy) (defScope s_same_policy) .none kV13 dc13 pm13 an13 cd13 ct13), sl13⟩) (c13 : PySem.W.codeIn K cd13 "same_policy" = true) (k13 : PySem.W.keepIn K (.ref f13) = true)
    (a14 : PySem.W.nsIn K mainGlobals "check_size" = some (some (.ref f14))) (l14 : K.lookup f14 = some ⟨oc14, od14, .func (PySem.W.fnOf "check_size" "check_size" (defArgs s_check_size) (defBody s_check_size) (defScope s_check_size) .none kV14 dc14 pm14 an14 cd14 ct14), sl14⟩) (c14 : PySem.W.codeIn K cd14 "check_size" = true) (k14 : PySem.W.keepIn K (.ref f14) = true)
    (a15 : PySem.W.nsIn K mainGlobals "nested" = some (some (.ref f15))) (l15 : K.lookup f15 = some ⟨oc15, od15, .func (PySem.W.fnOf "nested" "nested" (defArgs s_nested) (defBody s_nested) (defScope s_nested) .none kV15 dc15 pm15 an15 cd15 ct15), sl15⟩) (c15 : PySem.W.codeIn K cd15 "nested" = true) (k15 : PySem.W.keepIn K (.ref f15) = true)
    (a16 : PySem.W.nsIn K mainGlobals "layer_attempts" = some (some (.ref f16))) (l16 : K.lookup f16 = some ⟨oc16, od16, .func (PySem.W.fnOf "layer_attempts" "layer_attempts" (defArgs s_layer_attempts) (defBody s_layer_attempts) (defScope s_layer_attempts) .none kV16 dc16 pm16 an16 cd16 ct16), sl16⟩) (c16 : PySem.W.codeIn K cd16 "layer_attempts" = true) (k16 : PySem.W.keepIn K (.ref f16) = true)
    (a17 : PySem.W.nsIn K mainGlobals "layer_waits" = some (some (.ref f17))) (l17 : K.lookup f17 = some ⟨oc17, od17, .func (PySem.W.fnOf "layer_waits" "layer_waits" (defArgs s_layer_waits) (defBody s_layer_waits) (defScope s_layer_waits) .none kV17 dc17 pm17 an17 cd17 ct17), sl17⟩) (c17 : PySem.W.codeIn K cd17 "layer_waits" = true) (k17 : PySem.W.keepIn K (.ref f17) = true)
    (a18 : PySem.W.nsIn K mainGlobals "attempts" = some (some (.ref f18))) (l18 : K.lookup f18 = some ⟨oc18, od18, .func (PySem.W.fnOf "attempts" "attempts" (defArgs s_attempts) (defBody s_attempts) (defScope s_attempts) .none kV18 dc18 pm18 an18 cd18 ct18), sl18⟩) (c18 : PySem.W.codeIn K cd18 "attempts" = true) (k18 : PySem.W.keepIn K (.ref f18) = true)
    (a19 : PySem.W.nsIn K mainGlobals "flatten" = some (some (.ref f19))) (l19 : K.lookup f19 = some ⟨oc19, od19, .func (PySem.W.fnOf "flatten" "flatten" (defArgs s_flatten) (defBody s_flatten) (defScope s_flatten) .none kV19 dc19 pm19 an19 cd19 ct19), sl19⟩) (c19 : PySem.W.codeIn K cd19 "flatten" = true) (k19 : PySem.W.keepIn K (.ref f19) = true)
    (a20 : PySem.W.nsIn K mainGlobals "_law_rng" = some (some (.ref f20))) (l20 : K.lookup f20 = some ⟨oc20, od20, .func (PySem.W.fnOf "_law_rng" "_law_rng" (defArgs s_law_rng) (defBody s_law_rng) (defScope s_law_rng) .none kV20 dc20 pm20 an20 cd20 ct20), sl20⟩) (c20 : PySem.W.codeIn K cd20 "_law_rng" = true) (k20 : PySem.W.keepIn K (.ref f20) = true)
    (a21 : PySem.W.nsIn K mainGlobals "_law_draw" = some (some (.ref f21))) (l21 : K.lookup f21 = some ⟨oc21, od21, .func (PySem.W.fnOf "_law_draw" "_law_draw" (defArgs s_law_draw) (defBody s_law_draw) (defScope s_law_draw) .none kV21 dc21 pm21 an21 cd21 ct21), sl21⟩) (c21 : PySem.W.codeIn K cd21 "_law_draw" = true) (k21 : PySem.W.keepIn K (.ref f21) = true)
    (a22 : PySem.W.nsIn K mainGlobals "_law_flat" = some (some (.ref f22))) (l22 : K.lookup f22 = some ⟨oc22, od22, .func (PySem.W.fnOf "_law_flat" "_law_flat" (defArgs s_law_flat) (defBody s_law_flat) (defScope s_law_flat) .none kV22 dc22 pm22 an22 cd22 ct22), sl22⟩) (c22 : PySem.W.codeIn K cd22 "_law_flat" = true) (k22 : PySem.W.keepIn K (.ref f22) = true)
    (a23 : PySem.W.nsIn K mainGlobals "_law_single" = some (some (.ref f23))) (l23 : K.lookup f23 = some ⟨oc23, od23, .func (PySem.W.fnOf "_law_single" "_law_single" (defArgs s_law_single) (defBody s_law_single) (defScope s_law_single) .none kV23 dc23 pm23 an23 cd23 ct23), sl23⟩) (c23 : PySem.W.codeIn K cd23 "_law_single" = true) (k23 : PySem.W.keepIn K (.ref f23) = true)
    (a24 : PySem.W.nsIn K mainGlobals "_law_layer" = some (some (.ref f24))) (l24 : K.lookup f24 = some ⟨oc24, od24, .func (PySem.W.fnOf "_law_layer" "_law_layer" (defArgs s_law_layer) (defBody s_law_layer) (defScope s_law_layer) .none kV24 dc24 pm24 an24 cd24 ct24), sl24⟩) (c24 : PySem.W.codeIn K cd24 "_law_layer" = true) (k24 : PySem.W.keepIn K (.ref f24) = true)
    (a25 : PySem.W.nsIn K mainGlobals "_law_due" = some (some (.ref f25))) (l25 : K.lookup f25 = some ⟨oc25, od25, .func (PySem.W.fnOf "_law_due" "_law_due" (defArgs s_law_due) (defBody s_law_due) (defScope s_law_due) .none kV25 dc25 pm25 an25 cd25 ct25), sl25⟩) (c25 : PySem.W.codeIn K cd25 "_law_due" = true) (k25 : PySem.W.keepIn K (.ref f25) = true)
    (a26 : PySem.W.nsIn K mainGlobals "_law_changed" = some (some (.ref f26))) (l26 : K.lookup f26 = some ⟨oc26, od26, .func (PySem.W.fnOf "_law_changed" "_law_changed" (defArgs s_law_changed) (defBody s_law_changed) (defScope s_law_changed) .none kV26 dc26 pm26 an26 cd26 ct26), sl26⟩) (c26 : PySem.W.codeIn K cd26 "_law_changed" = true) (k26 : PySem.W.keepIn K (.ref f26) = true)
    (a27 : PySem.W.nsIn K mainGlobals "_law_sorted" = some (some (.ref f27))) (l27 : K.lookup f27 = some ⟨oc27, od27, .func (PySem.W.fnOf "_law_sorted" "_law_sorted" (defArgs s_law_sorted) (defBody s_law_sorted) (defScope s_law_sorted) .none kV27 dc27 pm27 an27 cd27 ct27), sl27⟩) (c27 : PySem.W.codeIn K cd27 "_law_sorted" = true) (k27 : PySem.W.keepIn K (.ref f27) = true)
    (a28 : PySem.W.nsIn K mainGlobals "_law_flat_right" = some (some (.ref f28))) (l28 : K.lookup f28 = some ⟨oc28, od28, .func (PySem.W.fnOf "_law_flat_right" "_law_flat_right" (defArgs s_law_flat_right) (defBody s_law_flat_right) (defScope s_law_flat_right) .none kV28 dc28 pm28 an28 cd28 ct28), sl28⟩) (c28 : PySem.W.codeIn K cd28 "_law_flat_right" = true) (k28 : PySem.W.keepIn K (.ref f28) = true)
    (a29 : PySem.W.nsIn K mainGlobals "law" = some (some (.ref f29))) (l29 : K.lookup f29 = some ⟨oc29, od29, .func (PySem.W.fnOf "law" "law" (defArgs s_law) (defBody s_law) (defScope s_law) .none kV29 dc29 pm29 an29 cd29 ct29), sl29⟩) (c29 : PySem.W.codeIn K cd29 "law" = true) (k29 : PySem.W.keepIn K (.ref f29) = true)
    (z0 : PySem.W.nsIn K mainGlobals "abs" = some none)
    (z1 : PySem.W.nsIn K mainGlobals "enumerate" = some none)
    (z2 : PySem.W.nsIn K mainGlobals "isinstance" = some none)
    (z3 : PySem.W.nsIn K mainGlobals "len" = some none)
    (z4 : PySem.W.nsIn K mainGlobals "list" = some none)
    (z5 : PySem.W.nsIn K mainGlobals "min" = some none)
    (z6 : PySem.W.nsIn K mainGlobals "range" = some none)
    (z7 : PySem.W.nsIn K mainGlobals "repr" = some none)
    (z8 : PySem.W.nsIn K mainGlobals "tuple" = some none)
    {y0 : Tok} (x0 : PySem.W.nsIn K mainGlobals "MOST_ATTEMPTS" = some (some (.int 10000 y0)))
    : ∃ fd : FuncData, (∀ (s : Shared) (v : Value), BindsTo s fd ⟨[v], []⟩ [("script", v)]) ∧ ∀ base : Heap, K.In base → base.Ns mainGlobals mg → FnG l.prog w K mg base lvl_law fa fd ["script"] (sp_law K) := by
  have e := hfa.symm.trans (PySem.W.mg_of X G a29)
  cases e
  have F0 := fun_mk (st := s_first_negative) l0 c0 k0
  have F1 := fun_mk (st := s_check_waits) l1 c1 k1
  have F2 := fun_mk (st := s_is_valid_layer) l2 c2 k2
  have F3 := fun_mk (st := s_check_nesting) l3 c3 k3
  have F4 := fun_mk (st := s_repeats) l4 c4 k4
  have F5 := fun_mk (st := s_is_inner_number) l5 c5 k5
  have F6 := fun_mk (st := s_smallest_inner_number) l6 c6 k6
  have F7 := fun_mk (st := s_list_parts) l7 c7 k7
  have F8 := fun_mk (st := s_layer_parts) l8 c8 k8
  have F9 := fun_mk (st := s_same_constant) l9 c9 k9
  have F10 := fun_mk (st := s_merged) l10 c10 k10
  have F11 := fun_mk (st := s_normal_form) l11 c11 k11
  have F12 := fun_mk (st := s_is_unsplittable) l12 c12 k12
  have F13 := fun_mk (st := s_same_policy) l13 c13 k13
  have F14 := fun_mk (st := s_check_size) l14 c14 k14
  have F15 := fun_mk (st := s_nested) l15 c15 k15
  have F16 := fun_mk (st := s_layer_attempts) l16 c16 k16
  have F17 := fun_mk (st := s_layer_waits) l17 c17 k17
  have F18 := fun_mk (st := s_attempts) l18 c18 k18
  have F19 := fun_mk (st := s_flatten) l19 c19 k19
  have F20 := fun_mk (st := s_law_rng) l20 c20 k20
  have F21 := fun_mk (st := s_law_draw) l21 c21 k21
  have F22 := fun_mk (st := s_law_flat) l22 c22 k22
  have F23 := fun_mk (st := s_law_single) l23 c23 k23
  have F24 := fun_mk (st := s_law_layer) l24 c24 k24
  have F25 := fun_mk (st := s_law_due) l25 c25 k25
  have F26 := fun_mk (st := s_law_changed) l26 c26 k26
  have F27 := fun_mk (st := s_law_sorted) l27 c27 k27
  have F28 := fun_mk (st := s_law_flat_right) l28 c28 k28
  have F29 := fun_mk (st := s_law) l29 c29 k29
  have b0 := F0.binds (ps := ["waits"]) fun _ _ _ _ _ _ us hl => match us, hl with | [_], _ => rfl
  have b1 := F1.binds (ps := ["waits"]) fun _ _ _ _ _ _ us hl => match us, hl with | [_], _ => rfl
  have b2 := F2.binds (ps := ["layer"]) fun _ _ _ _ _ _ us hl => match us, hl with | [_], _ => rfl
  have b3 := F3.binds (ps := ["nesting"]) fun _ _ _ _ _ _ us hl => match us, hl with | [_], _ => rfl
  have b4 := F4.binds (ps := ["waits", "number"]) fun _ _ _ _ _ _ us hl => match us, hl with | [_, _], _ => rfl
  have b5 := F5.binds (ps := ["waits", "number"]) fun _ _ _ _ _ _ us hl => match us, hl with | [_, _], _ => rfl
  have b6 := F6.binds (ps := ["waits"]) fun _ _ _ _ _ _ us hl => match us, hl with | [_], _ => rfl
  have b7 := F7.binds (ps := ["waits"]) fun _ _ _ _ _ _ us hl => match us, hl with | [_], _ => rfl
  have b8 := F8.binds (ps := ["layer"]) fun _ _ _ _ _ _ us hl => match us, hl with | [_], _ => rfl
  have b9 := F9.binds (ps := ["first", "second"]) fun _ _ _ _ _ _ us hl => match us, hl with | [_, _], _ => rfl
  have b10 := F10.binds (ps := ["layers"]) fun _ _ _ _ _ _ us hl => match us, hl with | [_], _ => rfl
  have b11 := F11.binds (ps := ["nesting"]) fun _ _ _ _ _ _ us hl => match us, hl with | [_], _ => rfl
  have b12 := F12.binds (ps := ["waits"]) fun _ _ _ _ _ _ us hl => match us, hl with | [_], _ => rfl
  have b13 := F13.binds (ps := ["first", "second"]) fun _ _ _ _ _ _ us hl => match us, hl with | [_, _], _ => rfl
  have b14 := F14.binds (ps := ["total"]) fun _ _ _ _ _ _ us hl => match us, hl with | [_], _ => rfl
  have b15 := F15.binds (ps := ["inner", "outer"]) fun _ _ _ _ _ _ us hl => match us, hl with | [_, _], _ => rfl
  have b16 := F16.binds (ps := ["layer"]) fun _ _ _ _ _ _ us hl => match us, hl with | [_], _ => rfl
  have b17 := F17.binds (ps := ["layer"]) fun _ _ _ _ _ _ us hl => match us, hl with | [_], _ => rfl
  have b18 := F18.binds (ps := ["nesting"]) fun _ _ _ _ _ _ us hl => match us, hl with | [_], _ => rfl
  have b19 := F19.binds (ps := ["nesting"]) fun _ _ _ _ _ _ us hl => match us, hl with | [_], _ => rfl
  have b20 := F20.binds (ps := ["script"]) fun _ _ _ _ _ _ us hl => match us, hl with | [_], _ => rfl
  have b21 := F21.binds (ps := ["rng", "limit"]) fun _ _ _ _ _ _ us hl => match us, hl with | [_, _], _ => rfl
  have b22 := F22.binds (ps := ["layers"]) fun _ _ _ _ _ _ us hl => match us, hl with | [_], _ => rfl
  have b23 := F23.binds (ps := ["rng"]) fun _ _ _ _ _ _ us hl => match us, hl with | [_], _ => rfl
  have b24 := F24.binds (ps := ["rng"]) fun _ _ _ _ _ _ us hl => match us, hl with | [_], _ => rfl
  have b25 := F25.binds (ps := ["pairs"]) fun _ _ _ _ _ _ us hl => match us, hl with | [_], _ => rfl
  have b26 := F26.binds (ps := ["rng", "layer"]) fun _ _ _ _ _ _ us hl => match us, hl with | [_, _], _ => rfl
  have b27 := F27.binds (ps := ["layers"]) fun _ _ _ _ _ _ us hl => match us, hl with | [_], _ => rfl
  have b28 := F28.binds (ps := ["rng"]) fun _ _ _ _ _ _ us hl => match us, hl with | [_], _ => rfl
  have b29 := F29.binds (ps := ["script"]) fun _ _ _ _ _ _ us hl => match us, hl with | [_], _ => rfl
  have T : Txt K mg := ⟨f0, _, F0, PySem.W.mg_of X G a0, b0, f1, _, F1, PySem.W.mg_of X G a1, b1, f2, _, F2, PySem.W.mg_of X G a2, b2, f3, _, F3, PySem.W.mg_of X G a3, b3, f4, _, F4, PySem.W.mg_of X G a4, b4, f5, _, F5, PySem.W.mg_of X G a5, b5, f6, _, F6, PySem.W.mg_of X G a6, b6, f7, _, F7, PySem.W.mg_of X G a7, b7, f8, _, F8, PySem.W.mg_of X G a8, b8, f9, _, F9, PySem.W.mg_of X G a9, b9, f10, _, F10, PySem.W.mg_of X G a10, b10, f11, _, F11, PySem.W.mg_of X G a11, b11, f12, _, F12, PySem.W.mg_of X G a12, b12, f13, _, F13, PySem.W.mg_of X G a13, b13, f14, _, F14, PySem.W.mg_of X G a14, b14, f15, _, F15, PySem.W.mg_of X G a15, b15, f16, _, F16, PySem.W.mg_of X G a16, b16, f17, _, F17, PySem.W.mg_of X G a17, b17, f18, _, F18, PySem.W.mg_of X G a18, b18, f19, _, F19, PySem.W.mg_of X G a19, b19, f20, _, F20, PySem.W.mg_of X G a20, b20, f21, _, F21, PySem.W.mg_of X G a21, b21, f22, _, F22, PySem.W.mg_of X G a22, b22, f23, _, F23, PySem.W.mg_of X G a23, b23, f24, _, F24, PySem.W.mg_of X G a24, b24, f25, _, F25, PySem.W.mg_of X G a25, b25, f26, _, F26, PySem.W.mg_of X G a26, b26, f27, _, F27, PySem.W.mg_of X G a27, b27, f28, _, F28, PySem.W.mg_of X G a28, b28, fa, _, F29, PySem.W.mg_of X G a29, b29, PySem.W.mg_none_of X G z0, PySem.W.mg_none_of X G z1, PySem.W.mg_none_of X G z2, PySem.W.mg_none_of X G z3, PySem.W.mg_none_of X G z4, PySem.W.mg_none_of X G z5, PySem.W.mg_none_of X G z6, PySem.W.mg_none_of X G z7, PySem.W.mg_none_of X G z8, _, PySem.W.mg_of X G x0⟩
  exact ⟨_, fun s v => .of_eq rfl, fun base _ _ => ok_law ⟨f0, _, F0, PySem.W.mg_of X G a0, b0, f1, _, F1, PySem.W.mg_of X G a1, b1, f2, _, F2, PySem.W.mg_of X G a2, b2, f3, _, F3, PySem.W.mg_of X G a3, b3, f4, _, F4, PySem.W.mg_of X G a4, b4, f5, _, F5, PySem.W.mg_of X G a5, b5, f6, _, F6, PySem.W.mg_of X G a6, b6, f7, _, F7, PySem.W.mg_of X G a7, b7, f8, _, F8, PySem.W.mg_of X G a8, b8, f9, _, F9, PySem.W.mg_of X G a9, b9, f10, _, F10, PySem.W.mg_of X G a10, b10, f11, _, F11, PySem.W.mg_of X G a11, b11, f12, _, F12, PySem.W.mg_of X G a12, b12, f13, _, F13, PySem.W.mg_of X G a13, b13, f14, _, F14, PySem.W.mg_of X G a14, b14, f15, _, F15, PySem.W.mg_of X G a15, b15, f16, _, F16, PySem.W.mg_of X G a16, b16, f17, _, F17, PySem.W.mg_of X G a17, b17, f18, _, F18, PySem.W.mg_of X G a18, b18, f19, _, F19, PySem.W.mg_of X G a19, b19, f20, _, F20, PySem.W.mg_of X G a20, b20, f21, _, F21, PySem.W.mg_of X G a21, b21, f22, _, F22, PySem.W.mg_of X G a22, b22, f23, _, F23, PySem.W.mg_of X G a23, b23, f24, _, F24, PySem.W.mg_of X G a24, b24, f25, _, F25, PySem.W.mg_of X G a25, b25, f26, _, F26, PySem.W.mg_of X G a26, b26, f27, _, F27, PySem.W.mg_of X G a27, b27, f28, _, F28, PySem.W.mg_of X G a28, b28, fa, _, F29, PySem.W.mg_of X G a29, b29, PySem.W.mg_none_of X G z0, PySem.W.mg_none_of X G z1, PySem.W.mg_none_of X G z2, PySem.W.mg_none_of X G z3, PySem.W.mg_none_of X G z4, PySem.W.mg_none_of X G z5, PySem.W.mg_none_of X G z6, PySem.W.mg_none_of X G z7, PySem.W.mg_none_of X G z8, _, PySem.W.mg_of X G x0⟩⟩
end Rn
open PySem PySem.W PyProof.Rows
set_option maxRecDepth 100000 in
set_option maxHeartbeats 0 in
theorem PySem.Challenge.cw_retrynest_k16_whole_large_layers_holds : PySem.Challenge.rw_retrynest_k16_whole_large_layers.Holds := by
  w_on; o_law; k_head; (case hw => w_witness2)
  k_fill
  refine Rn.walk_G (l := PySem.Challenge.rw_retrynest_k16_whole_large_layers) (k := Rn.lvl_law) (sp := Rn.sp_law) rfl rfl ⟨rfl, by decide, by decide⟩ (fun w h Y => PySem.W.kIn_of Y) ?F (fun _ _ a ns hl hS => ⟨a, ns, rfl, hS, hl, fun _ => rfl⟩)
  case F =>
    intro w mg fa h KX G hmg
    refine' Rn.all_mk KX G hmg ?a0 ?l0 ?c0 ?k0 ?a1 ?l1 ?c1 ?k1 ?a2 ?l2 ?c2 ?k2 ?a3 ?l3 ?c3 ?k3 ?a4 ?l4 ?c4 ?k4 ?a5 ?l5 ?c5 ?k5 ?a6 ?l6 ?c6 ?k6 ?a7 ?l7 ?c7 ?k7 ?a8 ?l8 ?c8 ?k8 ?a9 ?l9 ?c9 ?k9 ?a10 ?l10 ?c10 ?k10 ?a11 ?l11 ?c11 ?k11 ?a12 ?l12 ?c12 ?k12 ?a13 ?l13 ?c13 ?k13 ?a14 ?l14 ?c14 ?k14 ?a15 ?l15 ?c15 ?k15 ?a16 ?l16 ?c16 ?k16 ?a17 ?l17 ?c17 ?k17 ?a18 ?l18 ?c18 ?k18 ?a19 ?l19 ?c19 ?k19 ?a20 ?l20 ?c20 ?k20 ?a21 ?l21 ?c21 ?k21 ?a22 ?l22 ?c22 ?k22 ?a23 ?l23 ?c23 ?k23 ?a24 ?l24 ?c24 ?k24 ?a25 ?l25 ?c25 ?k25 ?a26 ?l26 ?c26 ?k26 ?a27 ?l27 ?c27 ?k27 ?a28 ?l28 ?c28 ?k28 ?a29 ?l29 ?c29 ?k29 ?z0 ?z1 ?z2 ?z3 ?z4 ?z5 ?z6 ?z7 ?z8 ?x0
    (case a0 => k_is); (case l0 => k_is); (case c0 => k_is); (case k0 => k_is); (case a1 => k_is); (case l1 => k_is); (case c1 => k_is); (case k1 => k_is); (case a2 => k_is)
    (case l2 => k_is); (case c2 => k_is); (case k2 => k_is); (case a3 => k_is); (case l3 => k_is); (case c3 => k_is); (case k3 => k_is); (case a4 => k_is); (case l4 => k_is)
    (case c4 => k_is); (case k4 => k_is); (case a5 => k_is); (case l5 => k_is); (case c5 => k_is); (case k5 => k_is); (case a6 => k_is); (case l6 => k_is); (case c6 => k_is)
    (case k6 => k_is); (case a7 => k_is); (case l7 => k_is); (case c7 => k_is); (case k7 => k_is); (case a8 => k_is); (case l8 => k_is); (case c8 => k_is); (case k8 => k_is)
    (case a9 => k_is); (case l9 => k_is); (case c9 => k_is); (case k9 => k_is); (case a10 => k_is); (case l10 => k_is); (case c10 => k_is); (case k10 => k_is); (case a11 => k_is)
    (case l11 => k_is); (case c11 => k_is); (case k11 => k_is); (case a12 => k_is); (case l12 => k_is); (case c12 => k_is); (case k12 => k_is); (case a13 => k_is)
    (case l13 => k_is); (case c13 => k_is); (case k13 => k_is); (case a14 => k_is); (case l14 => k_is); (case c14 => k_is); (case k14 => k_is); (case a15 => k_is)
    (case l15 => k_is); (case c15 => k_is); (case k15 => k_is); (case a16 => k_is); (case l16 => k_is); (case c16 => k_is); (case k16 => k_is); (case a17 => k_is)
    (case l17 => k_is); (case c17 => k_is); (case k17 => k_is); (case a18 => k_is); (case l18 => k_is); (case c18 => k_is); (case k18 => k_is); (case a19 => k_is)
    (case l19 => k_is); (case c19 => k_is); (case k19 => k_is); (case a20 => k_is); (case l20 => k_is); (case c20 => k_is); (case k20 => k_is); (case a21 => k_is)
    (case l21 => k_is); (case c21 => k_is); (case k21 => k_is); (case a22 => k_is); (case l22 => k_is); (case c22 => k_is); (case k22 => k_is); (case a23 => k_is)
    (case l23 => k_is); (case c23 => k_is); (case k23 => k_is); (case a24 => k_is); (case l24 => k_is); (case c24 => k_is); (case k24 => k_is); (case a25 => k_is)
    (case l25 => k_is); (case c25 => k_is); (case k25 => k_is); (case a26 => k_is); (case l26 => k_is); (case c26 => k_is); (case k26 => k_is); (case a27 => k_is)
    (case l27 => k_is); (case c27 => k_is); (case k27 => k_is); (case a28 => k_is); (case l28 => k_is); (case c28 => k_is); (case k28 => k_is); (case a29 => k_is)
    (case l29 => k_is); (case c29 => k_is); (case k29 => k_is); (case z0 => k_is); (case z1 => k_is); (case z2 => k_is); (case z3 => k_is); (case z4 => k_is); (case z5 => k_is)
    (case z6 => k_is); (case z7 => k_is); (case z8 => k_is); (case x0 => k_is)
