import PyProof.Rows.All
import Wide.All
import OpenK.AllK
import Wide.FinOn
import HandS.ForMost
import HandS.Wide
import HandS.IsInst
import HandS.NoneIn
import HandS.ForExc
import HandS.ExcSuper
import HandS.Conv
import KE.KExcSuper
import KE.KSuper
import HandS.Evl
import HandS.WideBits
import HandS.Zip
import HandS.Walk
import HandS.ExcIs
import HandS.SetFor
import HandS.Style
import HandS.Gcd
import HandS.Small
import HandS.DictComp
import HandS.List
import HandS.CallSlots
import HandS.Defaults
import HandS.ExcValue
import HandS.Deep
import HandS.Codes
import HandS.SlotsOwn
import HandS.OwnEq
import HandS.MakeKw
import HandS.MakeKwOnly
import PySem.Challenge.RW_retrynest_k25_equal_runners_and_copies
set_option Elab.async false
set_option linter.all false
set_option maxRecDepth 100000
set_option maxHeartbeats 4000000
namespace Rn
open PySem PySem.Spec PyProof.Rows L2

/-! ## heaps -/
theorem same_new {H : Hp} {p : Addr} {o : HO} (h : H p = none) : Same H (upd H p o) := fun b x e => by
  rw [upd_ne (ne_of_none e h)]
  exact e
theorem same_keep {H H' : Hp} {p : Addr} {o : HO} (e : Same H H') (h : H p = none) : Same H (upd H' p o) := fun b x q => by
  rw [upd_ne (ne_of_none q h)]
  exact e b x q
theorem sql {K : PySem.W.Frag} {H : Hp} {p : Addr} {xs : List V} (h : H p = some (.lst xs)) : SqL K H p xs := .inl (.inl h)
theorem sqt {K : PySem.W.Frag} {H : Hp} {p : Addr} {xs : List V} (h : H p = some (.tup xs)) : SqT K H p xs := .inl (.inl h)
/-- the source's two objects hidden -/
def hid (a d : Addr) (H : Hp) : Hp := fun b => if b = a ∨ b = d then none else H b
theorem hid_get {a d : Addr} {H : Hp} {b : Addr} {o : HO} (h : hid a d H b = some o) : H b = some o ∧ b ≠ a ∧ b ≠ d := by
  unfold hid at h
  by_cases e : b = a ∨ b = d
  · rw [if_pos e] at h
    cases h
  · rw [if_neg e] at h
    exact ⟨h, fun z => e (.inl z), fun z => e (.inr z)⟩
theorem hid_at {a d : Addr} {H : Hp} {b : Addr} {o : HO} (h : H b = some o) (ha : b ≠ a) (hd : b ≠ d) : hid a d H b = some o := by
  unfold hid
  rw [if_neg (fun z => z.elim ha hd)]
  exact h
theorem hid_none {a d : Addr} {H : Hp} {b : Addr} (h : H b = none) : hid a d H b = none := by
  unfold hid
  split
  · rfl
  · exact h
theorem hid_same {a d : Addr} {H H' : Hp} (e : Same H H') : Same (hid a d H) (hid a d H') := fun b o h => by
  obtain ⟨h1, h2, h3⟩ := hid_get h
  exact hid_at (e _ _ h1) h2 h3
theorem hid_src1 {a d : Addr} {H : Hp} {o : HO} : hid a d (upd H a o) = hid a d H := by
  funext b
  unfold hid
  by_cases e : b = a ∨ b = d
  · rw [if_pos e, if_pos e]
  · rw [if_neg e, if_neg e, upd_ne fun z => e (.inl z)]
theorem hid_src2 {a d : Addr} {H : Hp} {o : HO} : hid a d (upd H d o) = hid a d H := by
  funext b
  unfold hid
  by_cases e : b = a ∨ b = d
  · rw [if_pos e, if_pos e]
  · rw [if_neg e, if_neg e, upd_ne fun z => e (.inr z)]
theorem hid_oth {a d : Addr} {H : Hp} {p : Addr} {o : HO} (ha : p ≠ a) (hd : p ≠ d) : hid a d (upd H p o) = upd (hid a d H) p o := by
  funext b
  by_cases e : b = p
  · rw [e, upd_same]
    exact hid_at upd_same ha hd
  · rw [upd_ne e]
    unfold hid
    rw [upd_ne e]

/-! ## the source of draws: a list at a, its digits at d; at most n draws were mixed -/
def Src (H : Hp) (a d : Addr) (n : Int) : Prop := ∃ (cur mix cnt : Int) (ds : List Int), H a = some (.lst [.ref d, .int cur, .int mix, .int cnt]) ∧ H d = some (.lst (ds.map V.int)) ∧
  0 ≤ mix ∧ mix < 2305843009213693951 ∧ 0 ≤ cnt ∧ cnt ≤ n
theorem Src.ne {H : Hp} {a d : Addr} {n : Int} (s : Src H a d n) : a ≠ d := by
  obtain ⟨cur, mix, cnt, ds, h1, h2, _⟩ := s
  intro e
  rw [e] at h1
  rw [h1] at h2
  cases ds with
  | nil => cases h2
  | cons x r =>
    have z := Option.some.inj h2
    injection z with z
    rw [List.map_cons] at z
    injection z with z1 z2
    cases z1
theorem Src.lst1 {H : Hp} {a d : Addr} {n : Int} (s : Src H a d n) : ∃ o, H a = some o := let ⟨_, _, _, _, h, _⟩ := s; ⟨_, h⟩
theorem Src.lst2 {H : Hp} {a d : Addr} {n : Int} (s : Src H a d n) : ∃ o, H d = some o := let ⟨_, _, _, _, _, h, _⟩ := s; ⟨_, h⟩
theorem Src.same {H H' : Hp} {a d : Addr} {n : Int} (s : Src H a d n) (e : Same H H') : Src H' a d n := by
  obtain ⟨cur, mix, cnt, ds, h1, h2, h3⟩ := s
  exact ⟨cur, mix, cnt, ds, e _ _ h1, e _ _ h2, h3⟩
theorem Src.keep {H : Hp} {a d p : Addr} {o : HO} {n : Int} (s : Src H a d n) (ha : p ≠ a) (hd : p ≠ d) : Src (upd H p o) a d n := by
  obtain ⟨cur, mix, cnt, ds, h1, h2, h3⟩ := s
  exact ⟨cur, mix, cnt, ds, by rw [upd_ne ha.symm]; exact h1, by rw [upd_ne hd.symm]; exact h2, h3⟩
theorem Src.mono {H : Hp} {a d : Addr} {n m : Int} (s : Src H a d n) (h : n ≤ m) : Src H a d m := by
  obtain ⟨cur, mix, cnt, ds, h1, h2, h3, h4, h5, h6⟩ := s
  exact ⟨cur, mix, cnt, ds, h1, h2, h3, h4, h5, Int.le_trans h6 h⟩
theorem Src.new1 {H : Hp} {a d p : Addr} {n : Int} (s : Src H a d n) (h : H p = none) : p ≠ a ∧ p ≠ d := by
  obtain ⟨o, h1⟩ := s.lst1
  obtain ⟨u, h2⟩ := s.lst2
  exact ⟨(ne_of_none h1 h).symm, (ne_of_none h2 h).symm⟩

/-- what a call that draws at most c times does to the heap: all but the source stays, the source is a source -/
structure Adv (a d : Addr) (c : Int) (H H' : Hp) : Prop where
  same : Same (hid a d H) (hid a d H')
  src : ∀ n, Src H a d n → Src H' a d (n + c)
theorem Adv.refl {a d : Addr} {H : Hp} : Adv a d 0 H H := ⟨Same.refl _, fun n s => s.mono (by omega)⟩
theorem Adv.trans {a d : Addr} {c c' e : Int} {H H1 H2 : Hp} (x : Adv a d c H H1) (y : Adv a d c' H1 H2) (h : c + c' ≤ e) : Adv a d e H H2 :=
  ⟨x.same.trans y.same, fun n s => (y.src _ (x.src _ s)).mono (by omega)⟩
theorem Adv.mono {a d : Addr} {c e : Int} {H H1 : Hp} (x : Adv a d c H H1) (h : c ≤ e) : Adv a d e H H1 := ⟨x.same, fun n s => (x.src _ s).mono (by omega)⟩
theorem Adv.of {a d : Addr} {H H' : Hp} (e : Same H H') : Adv a d 0 H H' := ⟨hid_same e, fun n s => (s.same e).mono (by omega)⟩
/-- .. where a new object of the way has changed -/
theorem Adv.mut {a d : Addr} {c : Int} {H H' : Hp} {p : Addr} {o : HO} {n : Int} (x : Adv a d c H H') (s : Src H a d n) (h : H p = none) : Adv a d c H (upd H' p o) := by
  obtain ⟨h1, h2⟩ := s.new1 h
  refine ⟨?_, fun m t => (x.src m t).keep h1 h2⟩
  rw [hid_oth h1 h2]
  exact same_keep x.same (hid_none h)
/-- free behind is free ahead -/
theorem Adv.free {a d p : Addr} {c n : Int} {H H' : Hp} (x : Adv a d c H H') (s : Src H a d n) (h : H' p = none) : H p = none := by
  have s' := x.src n s
  obtain ⟨h1, h2⟩ := s'.new1 h
  cases q : H p with
  | none => rfl
  | some o =>
    have e := (hid_get (x.same p o (hid_at q h1 h2))).1
    rw [h] at e
    cases e
theorem Adv.made {a d : Addr} {c cur mix cnt cur' cnt' : Int} {H H' : Hp} {ds' : List Int} (e : Same (hid a d H) (hid a d H')) (h : H a = some (.lst [.ref d, .int cur, .int mix, .int cnt]))
    (h' : H' a = some (.lst [.ref d, .int cur', .int mix, .int cnt'])) (hd' : H' d = some (.lst (ds'.map V.int))) (h0 : cnt ≤ cnt') (h1 : cnt' ≤ cnt + c) : Adv a d c H H' := by
  refine ⟨e, fun n s => ?_⟩
  obtain ⟨cu, mi, cn, ds, a1, a2, a3, a4, a5, a6⟩ := s
  rw [h] at a1
  cases a1
  exact ⟨cur', mix, cnt', ds', h', hd', a3, a4, by omega, by omega⟩
theorem small64 {x b : Int} (h0 : 0 ≤ x) (h1 : x < b) (hb : b ≤ 18446744073709551616) : x.natAbs < 2 ^ 64 := by omega

/-! ## ints in lists -/
theorem map_get {ns : List Int} {i : Nat} {x : Int} (h : ns[i]? = some x) : (ns.map V.int)[i]? = some (.int x) := by
  rw [List.getElem?_map, h]
  rfl
theorem at_int {ns : List Int} {i : Int} (h0 : 0 ≤ i) (h : i < ns.length) : ∃ x, x ∈ ns ∧ ns[i.toNat]? = some x ∧ atI (ns.map V.int) i = some (.int x) := by
  obtain ⟨j, rfl⟩ : ∃ j : Nat, i = (j : Int) := ⟨i.toNat, by omega⟩
  have hi : j < ns.length := by omega
  exact ⟨ns[j], List.getElem_mem hi, List.getElem?_eq_getElem hi, atI_nat (map_get (List.getElem?_eq_getElem hi))⟩
theorem at_val {xs : List V} {i : Int} (h0 : 0 ≤ i) (h : i < xs.length) : ∃ x, x ∈ xs ∧ xs[i.toNat]? = some x ∧ atI xs i = some x := by
  obtain ⟨j, rfl⟩ : ∃ j : Nat, i = (j : Int) := ⟨i.toNat, by omega⟩
  have hi : j < xs.length := by omega
  exact ⟨xs[j], List.getElem_mem hi, List.getElem?_eq_getElem hi, atI_nat (List.getElem?_eq_getElem hi)⟩
theorem size_le {n : Nat} (h : n ≤ 100000) : n ≤ sizeLine := Nat.le_trans h (by decide)
theorem size_lt {n : Nat} (h : n < 100000) : n < sizeLine := Nat.lt_of_lt_of_le h (by decide)
mutual
theorem eqv_refl' : ∀ d : PyData, d.canLay0 = true → PyData.eqv d d = true
  | .none, _ => rfl
  | .bool b, _ => by simp [PyData.eqv]
  | .int i, _ => by simp [PyData.eqv]
  | .str x, _ => by simp [PyData.eqv]
  | .list xs, h => by
    simp only [PyData.eqv]
    exact eqvAll_refl' xs (by simpa [PyData.canLay0] using h)
  | .tuple xs, h => by
    simp only [PyData.eqv]
    exact eqvAll_refl' xs (by simpa [PyData.canLay0] using h)
  | .dict _, h => by simp [PyData.canLay0] at h
theorem eqvAll_refl' : ∀ ds : List PyData, PyData.canLayAll0 ds = true → PyData.eqvAll ds ds = true
  | [], _ => by simp [PyData.eqvAll]
  | d :: ds, h => by
    have h' : d.canLay0 = true ∧ PyData.canLayAll0 ds = true := by simpa [PyData.canLayAll0] using h
    simp only [PyData.eqvAll, Bool.and_eq_true]
    exact ⟨eqv_refl' d h'.1, eqvAll_refl' ds h'.2⟩
end
/-- a list of ints as data -/
def dInts (ns : List Int) : PyData := .list (ns.map .int)
theorem eqvAll_ints : ∀ ns ms : List Int, PyData.eqvAll (ns.map .int) (ms.map .int) = decide (ns = ms)
  | [], [] => by simp [PyData.eqvAll]
  | [], _ :: _ => by simp [PyData.eqvAll]
  | _ :: _, [] => by simp [PyData.eqvAll]
  | n :: ns, m :: ms => by
    have ih := eqvAll_ints ns ms
    simp only [List.map_cons, PyData.eqvAll, PyData.eqv, ih]
    by_cases h1 : n = m <;> by_cases h2 : ns = ms <;> simp [h1, h2]
theorem eqv_ints (ns ms : List Int) : PyData.eqv (dInts ns) (dInts ms) = decide (ns = ms) := by
  unfold dInts
  simp only [PyData.eqv]
  exact eqvAll_ints ns ms
theorem canLay_ints : ∀ ns : List Int, PyData.canLayAll0 (ns.map .int) = true
  | [] => by simp [PyData.canLayAll0]
  | n :: ns => by simp [PyData.canLayAll0, PyData.canLay0, canLay_ints ns]
theorem depth_ints : ∀ ns : List Int, PyData.depthAll (ns.map .int) ≤ 1
  | [] => by simp [PyData.depthAll]
  | n :: ns => by
    have := depth_ints ns
    simp only [List.map_cons, PyData.depthAll, PyData.depth]
    omega
theorem shaped_ints (ns : List Int) : SeqAt.shaped (dInts ns) = true := by
  have h := depth_ints ns
  unfold SeqAt.shaped
  rw [Bool.and_eq_true]
  refine ⟨?_, decide_eq_true ?_⟩
  · unfold dInts
    simp only [PyData.canLay0, canLay_ints]
  · unfold dInts
    simp only [PyData.depth]
    omega
theorem dp_all {K : PySem.W.Frag} {H : Hp} : ∀ ns : List Int, DpAll K H (ns.map V.int) (ns.map .int)
  | [] => .nil
  | n :: ns => .cons (.int n) (dp_all ns)
theorem dp_ints {K : PySem.W.Frag} {H : Hp} {p : Addr} {ns : List Int} (h : SqL K H p (ns.map V.int)) : Dp K H (.ref p) (dInts ns) := .lst h (dp_all ns)
theorem dp_nil {K : PySem.W.Frag} {H : Hp} {p : Addr} (h : SqL K H p []) : Dp K H (.ref p) (dInts []) := .lst h .nil

/-! ## loops -/
/-- for i, x in enumerate(xs), xs left as it is -/
theorem for_enum {K : PySem.W.Frag} {a : Addr} {xs : List V} {g : TG} {tb : TS} {D : Ends} {σ : L2.St} {H : Hp} (Pv : Nat → L2.St → Hp → Prop) (h0 : Pv 0 σ H)
    (hl : ∀ i σ H, i ≤ xs.length → Pv i σ H → SqL K H a xs)
    (hs : ∀ i x σ H T, xs[i]? = some x → Pv i σ H → H T = none → g (.ref T) σ (upd H T (.tup [.int (i : Nat), x])) fun σ2 H2 => tb { D with nx := Pv (i + 1), ct := Pv (i + 1), bk := D.nx } σ2 H2)
    (hd : ∀ σ H, Pv xs.length σ H → D.nx σ H) :
    ∃ W : Nat → Nat → L2.St → Hp → Prop, (∃ m, W 0 m σ H) ∧ ∀ i m σ H, W i m σ H →
      ((Ite K a).stop i H ∧ D.nx σ H) ∨ ((Ite K a).go i H ∧ ∃ N : L2.St → Hp → Prop, (∀ σ' H', N σ' H' → ∃ m', m' < m ∧ W (i + 1) m' σ' H') ∧
        ∀ x H', (Ite K a).yld i H x H' → g x σ H' fun σ2 H2 => tb { D with nx := N, ct := N, bk := D.nx } σ2 H2) := by
  refine ⟨fun i m σ' H' => m + i = xs.length ∧ Pv i σ' H', ⟨xs.length, rfl, h0⟩, fun i m σ' H' hW => ?_⟩
  obtain ⟨em, hp⟩ := hW
  have hq := hl i σ' H' (by omega) hp
  by_cases hi : i < xs.length
  · refine .inr ⟨⟨xs, xs[i], hq, List.getElem?_eq_getElem hi⟩, Pv (i + 1), fun σ2 H2 h2 => ⟨m - 1, by omega, by omega, h2⟩, fun x H2 hy => ?_⟩
    obtain ⟨T, y, rfl, nT, rfl, hx⟩ := hy
    exact hs i y σ' H' T (hx xs hq) hp nT
  · have e : i = xs.length := by omega
    subst e
    exact .inl ⟨⟨xs, hq, Nat.le_refl _⟩, hd σ' H' hp⟩

/-! ## kinds -/
section
variable {K : PySem.W.Frag} {H : Hp} {p : Addr} {xs : List V} {Q : VK}
theorem isi_tt (h : H p = some (.tup xs)) (q : Q (.bl true) H) : rIsi K [.ref p, .ty "tuple"] H Q := ⟨_, _, _, _, _, rfl, .ty "tuple", .base (.tup h), kit_ty (by decide +kernel), q⟩
theorem isi_lt (h : H p = some (.lst xs)) (q : Q (.bl false) H) : rIsi K [.ref p, .ty "tuple"] H Q := ⟨_, _, _, _, _, rfl, .ty "tuple", .base (.lst h), kit_ty (by decide +kernel), q⟩
theorem isi_ll (h : H p = some (.lst xs)) (q : Q (.bl true) H) : rIsi K [.ref p, .ty "list"] H Q := ⟨_, _, _, _, _, rfl, .ty "list", .base (.lst h), kit_ty (by decide +kernel), q⟩
theorem isi_tl (h : H p = some (.tup xs)) (q : Q (.bl false) H) : rIsi K [.ref p, .ty "list"] H Q := ⟨_, _, _, _, _, rfl, .ty "list", .base (.tup h), kit_ty (by decide +kernel), q⟩
end

theorem units1 {n c : Nat} (h : n + 64 < c) : n + 1 < c := by omega
theorem yes_thn {σ : L2.St} {H : Hp} {A B : Hp → Prop} (h : A H) : tYes σ H (fun b H3 => if b = true then A H3 else B H3) := by
  change (if true = true then A H else B H)
  exact (if_pos rfl).mpr h
/-! ## policies and layers -/
/-- the inner one, then each wait of the outer one and the inner one again -/
def nestL {α : Type} (xs ys : List α) : List α := xs ++ ys.flatMap fun y => y :: xs
theorem nestL_map {α β : Type} (f : α → β) (xs ys : List α) : (nestL xs ys).map f = nestL (xs.map f) (ys.map f) := by
  unfold nestL
  rw [List.map_append, List.map_flatMap, List.flatMap_map]
  congr 1
theorem flatMap_len {α β : Type} (f : α → List β) (n : Nat) (h : ∀ x, (f x).length = n) : ∀ l : List α, (l.flatMap f).length = l.length * n
  | [] => by simp
  | x :: l => by
    rw [List.flatMap_cons, List.length_append, h x, flatMap_len f n h l, List.length_cons, Nat.succ_mul, Nat.add_comm]
theorem nestL_len {α : Type} (xs ys : List α) : (nestL xs ys).length + 1 = (xs.length + 1) * (ys.length + 1) := by
  unfold nestL
  rw [List.length_append, flatMap_len _ (xs.length + 1) (fun _ => rfl)]
  generalize xs.length = a
  generalize ys.length = b
  have e1 : (a + 1) * (b + 1) = a * b + a + (b + 1) := by rw [Nat.add_mul, Nat.mul_add, Nat.mul_one, Nat.one_mul]
  have e2 : b * (a + 1) = a * b + b := by rw [Nat.mul_add, Nat.mul_one, Nat.mul_comm]
  omega
theorem nestL_nil {α : Type} (xs : List α) : nestL xs [] = xs := by
  unfold nestL
  simp
theorem nil_nestL {α : Type} (ys : List α) : nestL [] ys = ys := by
  unfold nestL
  simp
theorem nestL_mem {α : Type} {xs ys : List α} {z : α} (h : z ∈ nestL xs ys) : z ∈ xs ∨ z ∈ ys := by
  unfold nestL at h
  rw [List.mem_append, List.mem_flatMap] at h
  rcases h with h | ⟨y, hy, h⟩
  · exact .inl h
  · rcases List.mem_cons.mp h with e | h
    · exact .inr (e ▸ hy)
    · exact .inl h
inductive Lay where
  | pol (ns : List Int)
  | con (w n : Int)
def Lay.cnt : Lay → Int
  | .pol ns => (ns.length : Int) + 1
  | .con _ n => n
def Lay.waits : Lay → List Int
  | .pol ns => ns
  | .con w n => List.replicate (n - 1).toNat w
def Lay.ok : Lay → Bool
  | .pol ns => ns.all fun x => decide (0 ≤ x)
  | .con w n => decide (0 ≤ w) && decide (1 ≤ n)
theorem Lay.ok_con (w n : Int) : (Lay.con w n).ok = (decide (0 ≤ w) && decide (1 ≤ n)) := rfl
theorem Lay.ok_pol (ns : List Int) : (Lay.pol ns).ok = ns.all fun x => decide (0 ≤ x) := rfl
def LayAt (H : Hp) (v : V) : Lay → Prop
  | .pol ns => ∃ p, v = .ref p ∧ H p = some (.lst (ns.map V.int))
  | .con w n => ∃ p, v = .ref p ∧ H p = some (.tup [.int w, .int n])
theorem LayAt.same {H H' : Hp} {v : V} {L : Lay} (h : LayAt H v L) (e : Same H H') : LayAt H' v L := by
  cases L with
  | pol ns => obtain ⟨p, h1, h2⟩ := h; exact ⟨p, h1, e _ _ h2⟩
  | con w n => obtain ⟨p, h1, h2⟩ := h; exact ⟨p, h1, e _ _ h2⟩
theorem LayAt.ref {H : Hp} {v : V} {L : Lay} (h : LayAt H v L) : ∃ p, v = .ref p := by
  cases L with
  | pol ns => obtain ⟨p, h1, _⟩ := h; exact ⟨p, h1⟩
  | con w n => obtain ⟨p, h1, _⟩ := h; exact ⟨p, h1⟩
def NestAt (H : Hp) (q : Addr) (Ls : List Lay) : Prop := ∃ vs, H q = some (.lst vs) ∧ vs.length = Ls.length ∧ ∀ (i : Nat) v L, vs[i]? = some v → Ls[i]? = some L → LayAt H v L
theorem NestAt.same {H H' : Hp} {q : Addr} {Ls : List Lay} (h : NestAt H q Ls) (e : Same H H') : NestAt H' q Ls := by
  obtain ⟨vs, h1, h2, h3⟩ := h
  exact ⟨vs, e _ _ h1, h2, fun i v L a b => (h3 i v L a b).same e⟩
theorem LayAt.con_pos {L : Lay} (h : L.ok = true) : 1 ≤ L.cnt := by
  cases L with
  | pol ns => show (1 : Int) ≤ (ns.length : Int) + 1; omega
  | con w n =>
    unfold Lay.ok at h
    rw [Bool.and_eq_true] at h
    exact of_decide_eq_true h.2
def attOf (Ls : List Lay) : Int := Ls.foldl (fun t L => t * L.cnt) 1
def flatL (Ls : List Lay) : List Int := Ls.foldl (fun acc L => if L.cnt > 1 then nestL acc L.waits else acc) []
theorem nest_of {H : Hp} {q : Addr} {vs : List V} {Ls : List Lay} (h : H q = some (.lst vs)) (p : Paired (LayAt H) vs Ls) : NestAt H q Ls := by
  refine ⟨vs, h, Paired.length p, ?_⟩
  clear h
  induction p with
  | nil =>
    intro i v L h
    cases h
  | cons r t ih =>
    intro i v L h1 h2
    cases i with
    | zero =>
      cases h1
      cases h2
      exact r
    | succ i => exact ih i v L h1 h2
theorem flatL_eq : ∀ (Ls : List Lay) (acc : List Int), (∀ L ∈ Ls, L.ok = true) → Ls.foldl (fun acc L => if L.cnt > 1 then nestL acc L.waits else acc) acc = Ls.foldl (fun acc L => nestL acc L.waits) acc
  | [], _, _ => rfl
  | L :: Ls, acc, h => by
    have h1 := LayAt.con_pos (h L List.mem_cons_self)
    have e : (if L.cnt > 1 then nestL acc L.waits else acc) = nestL acc L.waits := by
      split
      · rfl
      · have hw : L.waits = [] := by
          cases L with
          | pol ns =>
            have : (ns.length : Int) + 1 = (Lay.pol ns).cnt := rfl
            exact List.length_eq_zero_iff.mp (by show ns.length = 0; omega)
          | con w n =>
            have : n = (Lay.con w n).cnt := rfl
            show List.replicate (n - 1).toNat w = []
            rw [show (n - 1).toNat = 0 by omega]
            rfl
        rw [hw, nestL_nil]
    rw [List.foldl_cons, List.foldl_cons, e]
    exact flatL_eq Ls _ fun M hM => h M (List.mem_cons_of_mem _ hM)
theorem flatL_fold {Ls : List Lay} (h : ∀ L ∈ Ls, L.ok = true) : flatL Ls = Ls.foldl (fun acc L => nestL acc L.waits) [] := flatL_eq Ls [] h
theorem nestL_assoc {α : Type} (xs ys zs : List α) : nestL (nestL xs ys) zs = nestL xs (nestL ys zs) := by
  unfold nestL
  rw [List.flatMap_append, List.append_assoc]
  congr 1
  congr 1
  induction zs with
  | nil => rfl
  | cons z zs ih =>
    simp only [List.flatMap_cons, List.flatMap_append, List.cons_append, List.append_assoc] at ih ⊢
    rw [ih]
theorem pol_ok {ns : List Int} (h : ∀ x ∈ ns, 0 ≤ x ∧ x < 1000000000000) : (Lay.pol ns).ok = true := by
  rw [Lay.ok_pol, List.all_eq_true]
  exact fun x hx => decide_eq_true (h x hx).1
theorem ne_no {ns ms : List Int} {A B : Prop} (h : ns = ms) (b : B) : if (!PyData.eqv (dInts ns) (dInts ms)) = true then A else B := by
  rw [eqv_ints, decide_eq_true h]
  exact iteF b

/-! ## rules of the written part in a comprehension's block -/
section
variable {X : Cx} {K : PySem.W.Frag}
theorem ix_listK (h : X.K = K) : IxR X (rIxL K) := by subst h; exact ix_list
theorem ix_tupK (h : X.K = K) : IxR X (rIxT K) := by subst h; exact ix_tup
theorem sl_listK (h : X.K = K) : SlR X (rSlL K) := by subst h; exact sl_list
theorem op_eqDK (h : X.K = K) (hu : X.A.units + 64 < cLine) : OpR X (compareOp .Eq) (rEqD K) := by subst h; exact op_eqD hu
theorem op_neDK (h : X.K = K) (hu : X.A.units + 64 < cLine) : OpR X (compareOp .NotEq) (rNeD K) := by subst h; exact op_neD hu
theorem op_in_seqK (h : X.K = K) : OpR X (compareOp .In) (rIn K false) := by subst h; exact op_in_seq
theorem op_notIn_seqK (h : X.K = K) : OpR X (compareOp .NotIn) (rIn K true) := by subst h; exact op_notIn_seq
theorem call_isiK1 (h : X.K = K) : CallR X (.builtin "isinstance") (rIsi K) := by subst h; exact call_isi
def rLenK (K : PySem.W.Frag) : List V → Hp → VK → Prop := fun xs H Q => ∃ p ys, xs = [.ref p] ∧ (SqL K H p ys ∨ SqT K H p ys) ∧ Q (.int (ys.length : Int)) H
theorem call_len_seqK (h : X.K = K) : CallR X (.builtin "len") (rLenK K) := by subst h; exact call_len_seq
def rListK (K : PySem.W.Frag) : List V → Hp → VK → Prop := fun xs H Q => ∃ p ys, xs = [.ref p] ∧ (SqL K H p ys ∨ SqT K H p ys) ∧ ∀ l, H l = none → Q (.ref l) (upd H l (.lst ys))
theorem call_list_ofK (h : X.K = K) : CallR X (.type "list") (rListK K) := by subst h; exact call_list_of
end
theorem refs_ints {ps : List Addr} {ws : List Int} (h : ps.map V.ref = ws.map V.int) : ps = [] := by
  cases ps with
  | nil => rfl
  | cons p ps =>
    cases ws with
    | nil => cases h
    | cons w ws =>
      injection h with h1 h2
      cases h1
theorem three {α : Type} {l : List α} (h : l.length = 3) : ∃ x y z, l = [x, y, z] := by
  match l, h with
  | [x, y, z], _ => exact ⟨x, y, z, rfl⟩
theorem ixN_at {n : Nat} {i : Int} (h0 : 0 ≤ i) (h1 : i < n) : ixN n i = some i.toNat := by
  unfold ixN
  rw [if_pos h0, if_pos h1]
theorem eq_yes {ns ms : List Int} (h : ns = ms) : PyData.eqv (dInts ns) (dInts ms) = true := by rw [eqv_ints, decide_eq_true h]
theorem nestL_cons {α : Type} (ns : List α) (m : α) (ms : List α) : nestL ns (m :: ms) = ns ++ m :: nestL ns ms := by
  unfold nestL
  rw [List.flatMap_cons, List.cons_append]
theorem nestL_get {α : Type} (ns : List α) : ∀ (ms : List α) (j : Nat), j < (nestL ns ms).length → (nestL ns ms)[j]? = if (j + 1) % (ns.length + 1) = 0 then ms[(j + 1) / (ns.length + 1) - 1]? else ns[(j + 1) % (ns.length + 1) - 1]?
  | [], j, h => by
    rw [nestL_nil] at h ⊢
    rw [Nat.mod_eq_of_lt (by omega), if_neg (by omega)]
    rfl
  | m :: ms, j, h => by
    rw [nestL_cons] at h ⊢
    by_cases h1 : j < ns.length
    · rw [List.getElem?_append_left h1, Nat.mod_eq_of_lt (by omega), if_neg (by omega)]
      rfl
    · by_cases h2 : j = ns.length
      · subst h2
        rw [List.getElem?_append_right (Nat.le_refl _), Nat.sub_self, Nat.mod_self, if_pos rfl, Nat.div_self (by omega)]
        rfl
      · obtain ⟨t, rfl⟩ : ∃ t, j = ns.length + 1 + t := ⟨j - (ns.length + 1), by omega⟩
        rw [List.getElem?_append_right (by omega), show ns.length + 1 + t - ns.length = t + 1 by omega, List.getElem?_cons_succ]
        rw [List.length_append, List.length_cons] at h
        rw [nestL_get ns ms t (by omega), show ns.length + 1 + t + 1 = (t + 1) + (ns.length + 1) by omega, Nat.add_mod_right, Nat.add_div_right _ (by omega)]
        by_cases h3 : (t + 1) % (ns.length + 1) = 0
        · rw [if_pos h3, if_pos h3, Nat.succ_sub_one]
          have : 1 ≤ (t + 1) / (ns.length + 1) := by
            have := Nat.div_add_mod (t + 1) (ns.length + 1)
            rw [h3] at this
            rcases Nat.eq_zero_or_pos ((t + 1) / (ns.length + 1)) with z | z
            · rw [z] at this
              omega
            · exact z
          obtain ⟨u, hu⟩ : ∃ u, (t + 1) / (ns.length + 1) = u + 1 := ⟨(t + 1) / (ns.length + 1) - 1, by omega⟩
          rw [hu]
          rfl
        · rw [if_neg h3, if_neg h3]
theorem foldl_nestL : ∀ (Ls : List Lay) (xs acc : List Int), Ls.foldl (fun acc L => nestL acc L.waits) (nestL xs acc) = nestL xs (Ls.foldl (fun acc L => nestL acc L.waits) acc)
  | [], _, _ => rfl
  | L :: Ls, xs, acc => by
    rw [List.foldl_cons, List.foldl_cons, nestL_assoc]
    exact foldl_nestL Ls xs (nestL acc L.waits)
theorem flatL_cons {L : Lay} {Ls : List Lay} (h : ∀ M ∈ L :: Ls, M.ok = true) : flatL (L :: Ls) = nestL L.waits (flatL Ls) := by
  rw [flatL_fold h, flatL_fold fun M hM => h M (List.mem_cons_of_mem _ hM), List.foldl_cons, nil_nestL]
  have := foldl_nestL Ls L.waits []
  rw [nestL_nil] at this
  exact this
/-- a nesting whose layers' objects are newer than H0 and none of them is the nesting's own list -/
def NestV (H0 G : Hp) (p : Addr) (vs : List V) (Ls : List Lay) : Prop := G p = some (.lst vs) ∧ vs.length = Ls.length ∧ (∀ (i : Nat) v L, vs[i]? = some v → Ls[i]? = some L → LayAt G v L) ∧ ∀ x, V.ref x ∈ vs → x ≠ p ∧ H0 x = none
theorem NestV.nest {H0 G : Hp} {p : Addr} {vs : List V} {Ls : List Lay} (h : NestV H0 G p vs Ls) : NestAt G p Ls := ⟨vs, h.1, h.2.1, h.2.2.1⟩
theorem NestV.same {H0 G G' : Hp} {p : Addr} {vs : List V} {Ls : List Lay} (h : NestV H0 G p vs Ls) (e : Same G G') : NestV H0 G' p vs Ls :=
  ⟨e _ _ h.1, h.2.1, fun i v L a b => (h.2.2.1 i v L a b).same e, h.2.2.2⟩
theorem NestV.nil {H0 G : Hp} {p : Addr} (h : G p = some (.lst [])) : NestV H0 G p [] [] := ⟨h, rfl, (fun _ _ _ z => nomatch z), (fun _ z => nomatch z)⟩
theorem LayAt.keep {G : Hp} {p : Addr} {o : HO} {v : V} {L : Lay} (h : LayAt G v L) (ne : ∀ x, v = V.ref x → x ≠ p) : LayAt (upd G p o) v L := by
  cases L with
  | pol ns => obtain ⟨x, e, z⟩ := h; exact ⟨x, e, by rw [upd_ne (ne x e)]; exact z⟩
  | con w n => obtain ⟨x, e, z⟩ := h; exact ⟨x, e, by rw [upd_ne (ne x e)]; exact z⟩
theorem NestV.push {H0 G : Hp} {p x : Addr} {vs : List V} {Ls : List Lay} {L : Lay} (h : NestV H0 G p vs Ls) (hx : LayAt G (.ref x) L) (ne : x ≠ p) (fr : H0 x = none) :
    NestV H0 (upd G p (.lst (vs ++ [.ref x]))) p (vs ++ [.ref x]) (Ls ++ [L]) := by
  obtain ⟨h1, h2, h3, h4⟩ := h
  refine ⟨upd_same, by rw [List.length_append, List.length_append, h2]; rfl, fun i v M a b => ?_, fun y hy => ?_⟩
  · by_cases hi : i < vs.length
    · rw [List.getElem?_append_left hi] at a
      rw [List.getElem?_append_left (by omega)] at b
      exact (h3 i v M a b).keep fun y e => (h4 y (e ▸ List.mem_of_getElem? a)).1
    · rw [List.getElem?_append_right (by omega)] at a
      rw [List.getElem?_append_right (by omega), ← h2] at b
      generalize i - vs.length = k at *
      cases k with
      | zero =>
        cases a
        cases b
        exact hx.keep fun y e => by cases e; exact ne
      | succ k => cases a
  · rcases List.mem_append.mp hy with z | z
    · exact h4 y z
    · have := List.mem_singleton.mp z
      cases this
      exact ⟨ne, fr⟩
/-- one of its lists of ints is changed in place, its length kept -/
theorem NestV.turn {H0 G : Hp} {p x : Addr} {vs : List V} {Ls : List Lay} {ws us : List Int} (h : NestV H0 G p vs Ls) (hx : G x = some (.lst (ws.map V.int))) (ne : x ≠ p) (hl : us.length = ws.length) :
    ∃ Ms : List Lay, NestV H0 (upd G x (.lst (us.map V.int))) p vs Ms ∧ Ms.map Lay.cnt = Ls.map Lay.cnt ∧ ∀ M ∈ Ms, M ∈ Ls ∨ (M = .pol us ∧ Lay.pol ws ∈ Ls) := by
  obtain ⟨h1, h2, h3, h4⟩ := h
  suffices key : ∀ (vs : List V) (Ls : List Lay), vs.length = Ls.length → (∀ (i : Nat) v L, vs[i]? = some v → Ls[i]? = some L → LayAt G v L) →
      ∃ Ms : List Lay, vs.length = Ms.length ∧ (∀ (i : Nat) v L, vs[i]? = some v → Ms[i]? = some L → LayAt (upd G x (.lst (us.map V.int))) v L) ∧ Ms.map Lay.cnt = Ls.map Lay.cnt ∧ ∀ M ∈ Ms, M ∈ Ls ∨ (M = .pol us ∧ Lay.pol ws ∈ Ls) by
    obtain ⟨Ms, k1, k2, k3, k4⟩ := key vs Ls h2 h3
    exact ⟨Ms, ⟨by rw [upd_ne ne.symm]; exact h1, k1, k2, h4⟩, k3, k4⟩
  clear h1 h2 h3 h4
  intro vs
  induction vs with
  | nil =>
    intro Ls hl _
    have : Ls = [] := List.length_eq_zero_iff.mp hl.symm
    subst this
    exact ⟨[], rfl, (fun _ _ _ z => nomatch z), rfl, (fun _ z => nomatch z)⟩
  | cons v vs ih =>
    intro Ls hlen hat
    cases Ls with
    | nil => cases hlen
    | cons L Ls =>
      obtain ⟨Ms, k1, k2, k3, k4⟩ := ih Ls (by simpa using hlen) fun i u M a b => hat (i + 1) u M a b
      have h0 := hat 0 v L rfl rfl
      by_cases e : v = V.ref x
      · subst e
        have hL : L = .pol ws := by
          cases L with
          | pol ns =>
            obtain ⟨y, e, z⟩ := h0
            cases e
            rw [hx] at z
            injection z with z
            injection z with z
            have : ∀ (as bs : List Int), as.map V.int = bs.map V.int → as = bs := by
              intro as
              induction as with
              | nil => intro bs q; cases bs with
                | nil => rfl
                | cons b bs => cases q
              | cons a as ih => intro bs q; cases bs with
                | nil => cases q
                | cons b bs =>
                  injection q with q1 q2
                  injection q1 with q1
                  rw [q1, ih bs q2]
            rw [this _ _ z]
          | con w n =>
            obtain ⟨y, e, z⟩ := h0
            cases e
            rw [hx] at z
            cases z
        refine ⟨.pol us :: Ms, by rw [List.length_cons, List.length_cons, k1], fun i u M a b => ?_, ?_, fun M hM => ?_⟩
        · cases i with
          | zero =>
            cases a
            cases b
            exact ⟨x, rfl, upd_same⟩
          | succ i => exact k2 i u M a b
        · rw [List.map_cons, List.map_cons, k3, hL]
          show ((us.length : Int) + 1) :: _ = ((ws.length : Int) + 1) :: _
          rw [hl]
        · rcases List.mem_cons.mp hM with z | z
          · exact .inr ⟨z, by rw [hL]; exact List.mem_cons_self⟩
          · rcases k4 M z with z | ⟨z1, z2⟩
            · exact .inl (List.mem_cons_of_mem _ z)
            · exact .inr ⟨z1, List.mem_cons_of_mem _ z2⟩
      · refine ⟨L :: Ms, by rw [List.length_cons, List.length_cons, k1], fun i u M a b => ?_, ?_, fun M hM => ?_⟩
        · cases i with
          | zero =>
            cases a
            cases b
            exact h0.keep fun y q z => e (by rw [q, z])
          | succ i => exact k2 i u M a b
        · rw [List.map_cons, List.map_cons, k3]
        · rcases List.mem_cons.mp hM with z | z
          · exact .inl (z ▸ List.mem_cons_self)
          · rcases k4 M z with z | ⟨z1, z2⟩
            · exact .inl (List.mem_cons_of_mem _ z)
            · exact .inr ⟨z1, List.mem_cons_of_mem _ z2⟩
theorem attOf_cnt : ∀ (Ls : List Lay) (t : Int), Ls.foldl (fun t L => t * L.cnt) t = (Ls.map Lay.cnt).foldl (fun t c => t * c) t
  | [], _ => rfl
  | L :: Ls, t => by
    rw [List.foldl_cons, List.map_cons, List.foldl_cons]
    exact attOf_cnt Ls _
theorem attOf_same {Ls Ms : List Lay} (h : Ms.map Lay.cnt = Ls.map Lay.cnt) : attOf Ms = attOf Ls := by
  unfold attOf
  rw [attOf_cnt, attOf_cnt, h]
/-- a layer that a law draws -/
def Lay.nice (L : Lay) : Prop := L.ok = true ∧ match L with
  | .pol ns => ns.length ≤ 60 ∧ ∀ x ∈ ns, 0 ≤ x ∧ x < 1000000000000
  | .con w n => w < 1000000000000 ∧ n < 1000000000000000000000
theorem Lay.nice_pol {ns : List Int} (h : ns.length ≤ 60) (hb : ∀ x ∈ ns, 0 ≤ x ∧ x < 1000000000000) : (Lay.pol ns).nice := ⟨pol_ok hb, h, hb⟩
theorem Lay.nice_con {w n : Int} (h0 : 0 ≤ w) (h1 : w < 1000000000000) (h2 : 1 ≤ n) (h3 : n < 1000000000000000000000) : (Lay.con w n).nice :=
  ⟨by rw [Lay.ok_con, decide_eq_true h0, decide_eq_true h2]; rfl, h1, h3⟩
theorem attOf_snoc (Ls : List Lay) (L : Lay) : attOf (Ls ++ [L]) = attOf Ls * L.cnt := by
  unfold attOf
  rw [List.foldl_append]
  rfl
theorem attOf_lt : ∀ n (Ls : List Lay), Ls.length = n → (∀ L ∈ Ls, L.ok = true ∧ L.cnt < 2 ^ 100) → 0 < attOf Ls ∧ (attOf Ls).natAbs < 2 ^ (100 * n + 1)
  | 0, Ls, e, _ => by
    have e' : Ls = [] := List.length_eq_zero_iff.mp e
    subst e'
    exact ⟨by decide, by decide⟩
  | n + 1, Ls, e, h => by
    have hne : Ls ≠ [] := fun z => by rw [z] at e; cases e
    obtain ⟨Ms, L, rfl⟩ : ∃ Ms L, Ls = Ms ++ [L] := ⟨_, _, (List.dropLast_concat_getLast hne).symm⟩
    rw [List.length_append] at e
    obtain ⟨i1, i2⟩ := attOf_lt n Ms (by simpa using e) fun M hM => h M (List.mem_append_left _ hM)
    obtain ⟨h1, h2⟩ := h L (List.mem_append_right _ List.mem_cons_self)
    have h3 := LayAt.con_pos h1
    rw [attOf_snoc]
    refine ⟨Int.mul_pos i1 (by omega), ?_⟩
    have z := wide_lt (i := attOf Ms) (j := L.cnt) (b := 100) i2 (by omega)
    rw [show 100 * (n + 1) + 1 = 100 * n + 1 + 100 by omega]
    exact z
theorem flatL_snoc (Ls : List Lay) (L : Lay) : flatL (Ls ++ [L]) = if L.cnt > 1 then nestL (flatL Ls) L.waits else flatL Ls := by
  unfold flatL
  rw [List.foldl_append]
  rfl
theorem waits_len {L : Lay} (h : L.ok = true) : (L.waits.length : Int) + 1 = L.cnt := by
  cases L with
  | pol ns => rfl
  | con w n =>
    have := LayAt.con_pos h
    have : 1 ≤ n := this
    show ((List.replicate (n - 1).toNat w).length : Int) + 1 = n
    rw [List.length_replicate]
    omega
theorem flatL_len : ∀ n (Ls : List Lay), Ls.length = n → (∀ L ∈ Ls, L.ok = true) → ((flatL Ls).length : Int) + 1 = attOf Ls
  | 0, Ls, e, _ => by
    have e' : Ls = [] := List.length_eq_zero_iff.mp e
    subst e'
    rfl
  | n + 1, Ls, e, h => by
    have hne : Ls ≠ [] := fun z => by rw [z] at e; cases e
    obtain ⟨Ms, L, rfl⟩ : ∃ Ms L, Ls = Ms ++ [L] := ⟨_, _, (List.dropLast_concat_getLast hne).symm⟩
    rw [List.length_append] at e
    have ih := flatL_len n Ms (by simpa using e) fun M hM => h M (List.mem_append_left _ hM)
    have h1 := h L (List.mem_append_right _ List.mem_cons_self)
    have h3 := LayAt.con_pos h1
    have h4 := waits_len h1
    rw [attOf_snoc, flatL_snoc, ← ih]
    split
    · have e5 := nestL_len (flatL Ms) L.waits
      rw [← h4]
      exact_mod_cast e5
    · have : L.cnt = 1 := by omega
      rw [this, Int.mul_one]
theorem attOf_part : ∀ (Ms Ls : List Lay), (∀ L ∈ Ls, L.ok = true) → (∀ L ∈ Ms, L.ok = true) → 1 ≤ attOf Ms ∧ attOf Ms ≤ attOf (Ms ++ Ls)
  | Ms, [], _, h => by
    rw [List.append_nil]
    refine ⟨?_, Int.le_refl _⟩
    have := flatL_len _ Ms rfl h
    omega
  | Ms, L :: Ls, h0, h => by
    have h1 := attOf_part (Ms ++ [L]) Ls (fun M hM => h0 M (List.mem_cons_of_mem _ hM)) (fun M hM => by
      rcases List.mem_append.mp hM with z | z
      · exact h M z
      · rw [List.mem_singleton.mp z]
        exact h0 L List.mem_cons_self)
    rw [List.append_assoc] at h1
    have h2 := LayAt.con_pos (h0 L List.mem_cons_self)
    have h3 := flatL_len _ Ms rfl h
    rw [attOf_snoc] at h1
    have h4 : attOf Ms * 1 ≤ attOf Ms * L.cnt := Int.mul_le_mul_of_nonneg_left h2 (by omega)
    refine ⟨by omega, ?_⟩
    have h5 : attOf Ms * L.cnt ≤ attOf (Ms ++ ([L] ++ Ls)) := h1.2
    have h6 : Ms ++ L :: Ls = Ms ++ ([L] ++ Ls) := rfl
    rw [h6]
    omega
theorem cnt_le {Ls : List Lay} (h : ∀ L ∈ Ls, L.ok = true) {L : Lay} (hL : L ∈ Ls) : L.cnt ≤ attOf Ls := by
  obtain ⟨As, Bs, rfl⟩ := List.append_of_mem hL
  have h1 := attOf_part As [] (fun _ z => nomatch z) (fun M hM => h M (List.mem_append_left _ hM))
  have h2 := attOf_part (As ++ [L]) Bs (fun M hM => h M (List.mem_append_right _ (List.mem_cons_of_mem _ hM))) (fun M hM => by
    rcases List.mem_append.mp hM with z | z
    · exact h M (List.mem_append_left _ z)
    · rw [List.mem_singleton.mp z]
      exact h L hL)
  have h3 := LayAt.con_pos (h L hL)
  rw [attOf_snoc, List.append_assoc] at h2
  have h4 : 1 * L.cnt ≤ attOf As * L.cnt := Int.mul_le_mul_of_nonneg_right h1.1 (by omega)
  have h5 : attOf As * L.cnt ≤ attOf (As ++ ([L] ++ Bs)) := h2.2
  have h6 : As ++ L :: Bs = As ++ ([L] ++ Bs) := rfl
  rw [h6]
  omega
theorem attOf_pos {Ls : List Lay} (h : ∀ L ∈ Ls, L.ok = true) : 1 ≤ attOf Ls := (attOf_part Ls [] (fun _ z => nomatch z) h).1
theorem part_left {t c left most : Int} (ht : 1 ≤ t) (hc : 1 ≤ c) (hl : c ≤ left) (h : t * left ≤ most) : 1 ≤ left / c ∧ t * c * (left / c) ≤ most := by
  refine ⟨by rw [Int.le_ediv_iff_mul_le (by omega)]; omega, ?_⟩
  have h1 : c * (left / c) ≤ left := by
    have := Int.mul_ediv_add_emod left c
    have := Int.emod_nonneg left (show c ≠ 0 by omega)
    omega
  rw [Int.mul_assoc]
  exact Int.le_trans (Int.mul_le_mul_of_nonneg_left h1 (by omega)) h
theorem le_left {t left most : Int} (ht : 1 ≤ t) (hl : 1 ≤ left) (h : t * left ≤ most) : t ≤ most := by
  have : t * 1 ≤ t * left := Int.mul_le_mul_of_nonneg_left hl (by omega)
  omega
theorem rep_flat {α : Type} (x : α) : ∀ m : Nat, (List.replicate m [x]).flatten = List.replicate m x
  | 0 => rfl
  | m + 1 => by
    rw [List.replicate_succ, List.flatten_cons, rep_flat x m, List.replicate_succ]
    rfl
def Lay.dat : Lay → PyData
  | .pol ns => dInts ns
  | .con w n => .tuple [.int w, .int n]
theorem dp_lay {K : PySem.W.Frag} {G : Hp} {v : V} {L : Lay} (h : LayAt G v L) : Dp K G v L.dat := by
  cases L with
  | pol ns => obtain ⟨p, rfl, hp⟩ := h; exact dp_ints (sql hp)
  | con w n => obtain ⟨p, rfl, hp⟩ := h; exact .tup (sqt hp) (.cons (.int w) (.cons (.int n) .nil))
theorem dp_lays {K : PySem.W.Frag} {G : Hp} : ∀ (vs : List V) (Ls : List Lay), vs.length = Ls.length → (∀ (i : Nat) v L, vs[i]? = some v → Ls[i]? = some L → LayAt G v L) → DpAll K G vs (Ls.map Lay.dat)
  | [], [], _, _ => .nil
  | [], _ :: _, h, _ => by cases h
  | _ :: _, [], h, _ => by cases h
  | v :: vs, L :: Ls, h, hat => .cons (dp_lay (hat 0 v L rfl rfl)) (dp_lays vs Ls (by simpa using h) fun i u M a b => hat (i + 1) u M a b)
theorem dp_nest {K : PySem.W.Frag} {G : Hp} {p : Addr} {Ls : List Lay} (h : NestAt G p Ls) : Dp K G (.ref p) (.list (Ls.map Lay.dat)) := by
  obtain ⟨vs, h1, h2, h3⟩ := h
  exact .lst (sql h1) (dp_lays vs Ls h2 h3)
theorem cut_one (xs : List V) : cutV xs none (some 1) = xs.take 1 := by
  unfold cutV
  rw [HT.sIx_none, show HT.sIx xs.length xs.length (some 1) = min 1 xs.length from HT.sIx_nat xs.length _ 1]
  cases xs with
  | nil => rfl
  | cons x r =>
    rw [show min 1 (x :: r).length = 1 by rw [List.length_cons]; omega]
    rfl
theorem flatL_con {w n : Int} (h0 : 0 ≤ w) (h1 : 1 ≤ n) : flatL [.con w n] = List.replicate (n - 1).toNat w := by
  rw [flatL_fold fun L hL => by rw [List.mem_singleton.mp hL, Lay.ok_con, decide_eq_true h0, decide_eq_true h1]; rfl]
  show nestL [] (List.replicate (n - 1).toNat w) = _
  rw [nil_nestL]
theorem NestV.low {H0 G : Hp} {a d p : Addr} {us : List V} {Ls : List Lay} (hv : NestV H0 (hid a d G) p us Ls) : NestAt G p Ls := by
  obtain ⟨z1, z2, z3, _⟩ := hv
  refine ⟨us, (hid_get z1).1, z2, fun i v L x y => ?_⟩
  have := z3 i v L x y
  cases L with
  | pol ns => obtain ⟨p, e, z⟩ := this; exact ⟨p, e, (hid_get z).1⟩
  | con w n => obtain ⟨p, e, z⟩ := this; exact ⟨p, e, (hid_get z).1⟩
theorem nice_cnt {L : Lay} (h : L.nice) : L.cnt < 2 ^ 100 := by
  obtain ⟨h0, h1⟩ := h
  cases L with
  | pol ns =>
    obtain ⟨h1, _⟩ := h1
    show (ns.length : Int) + 1 < 2 ^ 100
    omega
  | con w n =>
    obtain ⟨_, h1⟩ := h1
    show n < 2 ^ 100
    omega
theorem cut_n (xs : List V) (n : Nat) : cutV xs none (some (n : Int)) = xs.take n := by
  unfold cutV
  rw [HT.sIx_none, show HT.sIx xs.length xs.length (some (n : Int)) = min n xs.length from HT.sIx_nat xs.length _ n]
  show (xs.drop 0).take (min n xs.length - 0) = _
  rw [List.drop_zero, Nat.sub_zero]
  by_cases h : n ≤ xs.length
  · rw [Nat.min_eq_left h]
  · rw [Nat.min_eq_right (by omega), List.take_length, List.take_of_length_le (by omega)]
theorem cut_to (xs : List V) (n : Nat) : cutV xs (some (n : Int)) none = xs.drop n := by
  unfold cutV
  rw [HT.sIx_none, show HT.sIx xs.length 0 (some (n : Int)) = min n xs.length from HT.sIx_nat xs.length _ n]
  by_cases h : n ≤ xs.length
  · rw [Nat.min_eq_left h]
    exact List.take_of_length_le (by rw [List.length_drop]; omega)
  · rw [Nat.min_eq_right (by omega), List.drop_eq_nil_of_le (Nat.le_refl _), List.drop_eq_nil_of_le (by omega)]
    exact List.take_nil
theorem ne_same {d : PyData} {A B : Prop} (h : d.canLay0 = true) (b : B) : if (!PyData.eqv d d) = true then A else B := by
  rw [eqv_refl' d h]
  exact iteF b
theorem ne_val {x y : V} {A B : Prop} (h : x = y) (b : B) : if (!decide (x = y)) = true then A else B := by
  rw [h, decide_eq_true rfl]
  exact iteF b
end Rn

set_option Elab.async false
set_option linter.all false
set_option maxRecDepth 100000
set_option maxHeartbeats 4000000
namespace Rn
open PySem PySem.Spec PyProof.Rows L2
/-! ## repr of data; a law entered where no list is being shown -/
section
variable {X : Cx} {K : PySem.W.Frag}
def rRepr (K : PySem.W.Frag) : List V → Hp → VK → Prop := fun xs H Q => ∃ (p : Addr) (d : PyData), xs = [.ref p] ∧ Dp K H (.ref p) d ∧ d.showable = true ∧ d.hasDict = false ∧ d.depth ≤ 50 ∧ d.shown.length ≤ sizeLine ∧ Q (.str d.shown) H
theorem call_repr {k : Nat} (hg : X.A.guards = some []) (hr : Room k X.A) : CallR X (.builtin "repr") (rRepr X.K) := by
  intro pins s σ H xs us Q I r h
  obtain ⟨p, d, rfl, hd, hs, hh, hdep, hz, q⟩ := h
  cases r with
  | cons r1 r2 =>
    cases r2
    cases r1
    obtain ⟨as, rd⟩ := Dp.reads I d _ _ hd rfl
    have hu := hr.units
    exact repr_of_reads' rd hs (PyData.noDict_hsm hh) hg (by omega) (fun _ _ e => e) (fun h' u tk hk => ⟨.str d.shown, H, I.kept (t' := tk) hk, ⟨u, rfl⟩, q⟩) hz
end
section
variable {P : Program} {w : World} {K : PySem.W.Frag} {mg : Str → Option Value} {base : Heap}
/-- a promise that is kept wherever nothing is being shown -/
def FnG (P : Program) (w : World) (K : PySem.W.Frag) (mg : Str → Option Value) (base : Heap) (k : Nat) (f : Addr) (fd : FuncData) (ps : List Str) (sp : Sp) : Prop :=
  ∀ (A : Around) (outer : List Env) (s : Shared) (H : Hp) (args : Args) (us : List Value) (vs : List V) (Q : VK) (E : XK), A.guards = some [] → Room k A → Env0 P w K mg base A outer s H →
    BindsTo s fd args (ps.zip us) → Vals vs us → vs.length = ps.length → sp vs H Q E → codeAny (model P w) A (.call (.ref f) args) (CR CX0 outer P w H s Q E) s
theorem okG {x qual : Str} {st : Stmt} {f : Addr} {fd : FuncData} {N ps : List Str} {k : Nat} {sp : Sp} (F : Fun K x qual st f fd) (S : FnScope N ps (defScope st))
    (hbody : ∀ (cdv : Value) (A : Around) (outer : List Env) (s : Shared) (H : Hp) (vs : List V) (Q : VK) (E : XK), A.guards = some [] → Room k (A.deeper (envOfC qual (defScope st) s.heap.objs.size f cdv)) → sp vs H Q E →
      ∃ t, PSs (cxOf CX0 P w K mg base N qual (defScope st) f cdv A outer s H E).nox (defBody st) t ∧ t { nx := fun _ H' => Q .non H', rt := Q } (start N vs) H) :
    FnG P w K mg base (k + 1) f fd ps sp := by
  obtain ⟨oc, od, kV, doc, pm, an, cdv, ct, osl, efd, look, code⟩ := F.ex
  subst efd
  intro A outer s H args us vs Q E guard room e0 bind rel hlen want
  have same : ∀ b o, base.get? b = some o → s.heap.get? b = some o := fun b o z => (e0.bs b o z).1
  refine Att.call_fn (e0.mod.kin.keeps same) (e0.mod.nolimit.keeps same) look code room.depth bind ?_ (fun s1 x1 => ?_) S.co S.gen S.kind
  · rw [List.all_eq_true]
    rintro ⟨n, v⟩ hm
    rcases S.par n (List.of_mem_zip hm).1 with z | z
    · simp [z]
    · simp [z]
  obtain ⟨t, ht, hq⟩ := hbody cdv A outer s H vs Q E guard (room.deeper _) want
  have start0 : Inv (cxOf CX0 P w K mg base N qual (defScope st) f cdv A outer s H E) [] (start N vs) H s1 := inv_start S room.hd e0 hlen rel x1
  refine wpAny_mono (ht.nox.run [] s1 _ H _ start0 hq) (fun flow s2 done => ?_) (fun _ _ z => z)
  cases flow with
  | brk => exact (by obtain ⟨_, _, _, z⟩ := done; exact False.elim z)
  | cont => exact (by obtain ⟨_, _, _, z⟩ := done; exact False.elim z)
  | next =>
    obtain ⟨_, H2, J, z⟩ := done
    exact ⟨.non, H2, J.os, J.bare, J.base, J.hok, rfl, z⟩
  | ret u =>
    obtain ⟨v, _, H2, J, rv, z⟩ := done
    exact ⟨v, H2, J.os, J.bare, J.base, J.hok, rv, z⟩
/-- the heap's view at a law's entry: the script is known to the object, unless it is one of the text's own -/
def seen (K : PySem.W.Frag) (a : Addr) (vs : List Value) (ns : List Int) : Hp := fun b =>
  if b = a ∧ K.lookup a = none then some (.frz { cls := .type "list", data := .seq vs.toArray } (.lst (ns.map V.int))) else none
theorem seen_some {a b : Addr} {vs : List Value} {ns : List Int} {o : HO} (h : seen K a vs ns b = some o) : b = a ∧ K.lookup a = none ∧ o = .frz { cls := .type "list", data := .seq vs.toArray } (.lst (ns.map V.int)) := by
  unfold seen at h
  by_cases z : b = a ∧ K.lookup a = none
  · rw [if_pos z] at h
    exact ⟨z.1, z.2, (Option.some.inj h).symm⟩
  · rw [if_neg z] at h
    cases h
theorem law_at {mb : Str → Option Value} {fa a : Addr} {s1 : Shared} {vs : List Value} {ns : List Int} (hK : K.In s1.heap) (hmg : s1.heap.Ns mainGlobals mg) (hmb : s1.heap.Ns builtinsNs mb)
    (hbo : ∀ x : Str, x ≠ "__name__" → mb x = bootBuiltins x) (lim : s1.heap.NoLimit) (gens : s1.gens = #[]) (here : s1.heap.get? a = some { cls := .type "list", data := .seq vs.toArray }) (nums : IntsAre vs ns) (few : ns.length ≤ 63)
    (run : ∀ (base : Heap) (H : Hp), K.In base → base.Ns mainGlobals mg → Env0 P w K mg base callerA [] s1 H → SqL K H a (ns.map V.int) → codeAny (model P w) callerA (.call (.ref fa) ⟨[.ref a], []⟩) (CR CX0 [] P w H s1 (fun v _ => v = .bl true) E0) s1) :
    codeAny (model P w) callerA (.call (.ref fa) ⟨[.ref a], []⟩) (fun r s' => r = .ok (.ret (.bool true)) ∧ OldK s1.heap s'.heap ∧ s'.os = s1.os ∧ AllBare s'.gens) s1 := by
  have rel := vals_ints nums
  have cnt := nums.length
  have notDict : ∀ {b : Addr} {m : Str → Option Value}, s1.heap.Ns b m → seen K a vs ns b = none := fun {b m} z => by
    obtain ⟨o, es, ep, e, d, _⟩ := z
    cases q : seen K a vs ns b with
    | none => rfl
    | some u =>
      obtain ⟨eb, _, _⟩ := seen_some q
      rw [eb, here] at e
      cases e
      cases d
  have shift : ∀ {b : Addr} {m : Str → Option Value}, s1.heap.Ns b m → (hidT s1.heap (seen K a vs ns)).Ns b m := fun z => by
    have n := notDict z
    obtain ⟨o, es, ep, e, r⟩ := z
    exact ⟨o, es, ep, hidT_get e n, r⟩
  have kin : K.In (hidT s1.heap (seen K a vs ns)) := fun b o e => hidT_get (hK b o e) (by
    cases q : seen K a vs ns b with
    | none => rfl
    | some u =>
      obtain ⟨eb, en, _⟩ := seen_some q
      rw [eb, en] at e
      cases e)
  have hok : HOk P w (seen K a vs ns) s1.heap := fun b o e => by
    obtain ⟨rfl, _, rfl⟩ := seen_some e
    exact ⟨here, size_le (by rw [List.length_map]; omega), vs, _, rel, here⟩
  have env : Env0 P w K mg (hidT s1.heap (seen K a vs ns)) callerA [] s1 (seen K a vs ns) :=
    ⟨rfl, ⟨kin, shift hmg, ⟨mb, shift hmb, hbo⟩, by obtain ⟨mc, z1, z2⟩ := lim; exact ⟨mc, shift z1, z2⟩⟩, fun b o e => of_hidT e, Nat.le_of_eq (hidT_size _ _), trivial, (fun b z => nomatch z), hok, .of_eq gens⟩
  have script : SqL K (seen K a vs ns) a (ns.map V.int) := by
    cases q : K.lookup a with
    | none => exact .inl (.inr ⟨_, if_pos ⟨rfl, q⟩⟩)
    | some o =>
      have e := hK a o q
      rw [here] at e
      cases e
      exact .inr ⟨_, vs.toArray, _, q, rfl, rfl, rfl, by rw [List.size_toArray, cnt]; exact size_le (by omega), by simpa using rel⟩
  refine codeAny_mono (run _ _ kin (shift hmg) env script) fun r s' z => ?_
  cases r with
  | error e => exact False.elim z
  | ok flow =>
    cases flow with
    | brk => exact False.elim z
    | cont => exact False.elim z
    | next => exact False.elim z
    | ret u =>
      obtain ⟨v, H', os, bare, un, hok', rv, (rfl : v = .bl true)⟩ := z
      cases (show u = Value.bool true from rv)
      refine ⟨rfl, OldK.of_keep fun b o e => ?_, os, bare⟩
      cases q : seen K a vs ns b with
      | none => exact un.keep b o e q (fun z => nomatch z) (fun z => nomatch z)
      | some y =>
        obtain ⟨_, _, rfl⟩ := seen_some q
        obtain ⟨e2, _⟩ := hok' b _ (un.frzs b _ _ q)
        obtain ⟨e1, _⟩ := hok b _ q
        rw [e] at e1
        cases e1
        exact e2
end
/-- the walk's end for a law that shows lists -/
theorem walk_G {l : PySem.W.OpenLaw} {k : Nat} {q : Program} {loose : List Str} {XP : (Str → Option Value) → Heap → Prop} {YP : World → Heap → Prop} {d : DefRec} {K : Params → PySem.W.Frag} {sp : PySem.W.Frag → Sp}
    (hn : l.most = some 63) (hdf : d.params.defaults = []) (hr : Room k callerA) (hY : ∀ (w : World) (h : Heap), YP w h → (K w.params).In h)
    (F : ∀ (w : World) (mg : Str → Option Value) (fa : Addr) (h : Heap), (K w.params).In h → h.Ns mainGlobals mg → mg d.name = some (.ref fa) →
      ∃ fd : FuncData, (∀ (s : Shared) (u : Value), BindsTo s fd ⟨[u], []⟩ [("script", u)]) ∧ ∀ base : Heap, (K w.params).In base → base.Ns mainGlobals mg → FnG l.prog w (K w.params) mg base k fa fd ["script"] (sp (K w.params)))
    (hsp : ∀ (K : PySem.W.Frag) (H : Hp) (a : Addr) (ns : List Int), ns.length ≤ 63 → SqL K H a (ns.map V.int) → sp K [.ref a] H (fun v _ => v = .bl true) E0) :
    PySem.W.WalkO q loose XP YP l.row.toRowW d [] (fun f vs => PySem.call f vs) := by
  refine Att.attach_call hn hdf fun w s0 s1 mg mb fa o pm cd doc a vs ns G Y _ _ _ hmg here nums few gens => ?_
  obtain ⟨fd, bind, run⟩ := F w mg fa _ (hY w _ Y) G.T.g hmg
  exact law_at (hY w _ Y) G.T.g G.T.b G.T.builtins G.T.nolimit gens here nums few fun base H kin ns1 env script =>
    run base kin ns1 callerA [] s1 H _ [.ref a] [.ref a] _ _ rfl hr env (bind s1 (.ref a)) (.cons rfl .nil) rfl (hsp _ H a ns few script)
end Rn
namespace Rn
open PySem PySem.Spec PyProof.Rows L2
/-! ## calls by keywords alone -/
def tCallKw (sp : Sp) (gV : List V → List V → List V) (E : XK) (tk : TA) : TE := fun σ H Q => tk σ H fun zs H1 => sp (gV [] zs) H1 Q E
section
variable {X : Cx} {CX : CXT} {k : Nat} {f : Addr} {fd : FuncData} {ps ks : List Str} {sp : Sp} {E : XK} {x : Str} {p pos : Pos} {kws : List Keyword} {tk : TA} {g : List Value → List Value → List Value} {gV : List V → List V → List V}
theorem pe_callKw (F : FnOk X.prog X.w X.K X.mg X.base CX k f fd ps sp) (room : Room k X.A) (hg : Gl X x) (here : X.mg x = some (.ref f)) (keep : PySem.W.keepIn X.K (.ref f) = true) (bind : KBinds X.K fd ps ks g gV) (out : Passes CX X E)
    (hkw : PK X kws tk) (named : (backToKw pos (keywordEach kws X.env)).all (·.1.isSome) = true := by rfl) (order : (backToKw pos (keywordEach kws X.env)).filterMap (·.1) = ks := by rfl)
    (nodebug : (x == ("__debug__" : Str)) = false := by decide) (plain : ((backTo pos (starEach [] X.env)).any (·.1) || (backToKw pos (keywordEach kws X.env)).any (·.1.isNone)) = false := by rfl) :
    PE X (.Call (.Name x p) [] kws pos) (tCallKw sp gV E tk) := by
  constructor
  intro pins s σ H Q I h
  refine wpAny_Call_Name_kw (ld_glob I hg here ?_ nodebug)
  refine PySem.W.callWith_KW0 (h₀ := X.base) I.ok.mod.kin keep named (thn (hkw.run pos pins s σ H _ I h) fun ws s2 z => ?_) plain
  obtain ⟨zs, H2, I2, rz, q2⟩ := z
  rw [order]
  exact ⟨I2.kIn, run_fnk (us := []) (vs := []) F room bind out I2 .nil rz q2⟩
end
def kw1 {α : Type} : List α → List α → List α
  | [], [a] => [a]
  | _, _ => []
def kw2r {α : Type} : List α → List α → List α
  | [], [a, b] => [b, a]
  | _, _ => []
section
variable {K : PySem.W.Frag} {fd : FuncData} {p q : Str}
theorem kb1 (h : ∀ (s : Shared) (a : Value), BindsTo s fd ⟨[], [(p, a)]⟩ [(p, a)]) : KBinds K fd [p] [p] kw1 kw1 := by
  refine ⟨fun s us ws _ hl => ?_, fun {vs us zs ws} r1 r2 => ?_⟩
  · match us, ws, hl with
    | [], [a], _ => exact h s a
  · cases r1 with
    | cons _ _ => exact .nil
    | nil =>
      cases r2 with
      | nil => exact .nil
      | cons a r =>
        cases r with
        | nil => exact .cons a .nil
        | cons _ _ => exact .nil
theorem kb2r (h : ∀ (s : Shared) (a b : Value), BindsTo s fd ⟨[], [(q, a), (p, b)]⟩ [(p, b), (q, a)]) : KBinds K fd [p, q] [q, p] kw2r kw2r := by
  refine ⟨fun s us ws _ hl => ?_, fun {vs us zs ws} r1 r2 => ?_⟩
  · match us, ws, hl with
    | [], [a, b], _ => exact h s a b
  · cases r1 with
    | cons _ _ => exact .nil
    | nil =>
      cases r2 with
      | nil => exact .nil
      | cons a r =>
        cases r with
        | nil => exact .nil
        | cons b r =>
          cases r with
          | nil => exact .cons b (.cons a .nil)
          | cons _ _ => exact .nil
end
/-! ## data that can be shown -/
structure Shw (d : PyData) (W D : Nat) : Prop where
  show1 : d.showable = true
  plain : d.hasDict = false
  short : d.leavesShort 25 = true
  heavy : d.weight ≤ W
  deep : d.depth ≤ D
theorem Shw.fits {d : PyData} {W D : Nat} (s : Shw d W D) (h : W ≤ 500000) : d.shown.length ≤ sizeLine := by
  have h1 := PyData.shown_le 25 (by decide) d s.short
  have h2 := s.heavy
  have h3 : (25 + 2) * d.weight ≤ 27 * 500000 := Nat.mul_le_mul (by decide) (by omega)
  rw [sizeLine_eq]
  omega
theorem log_lt {i : Int} (h : i.natAbs < 10 ^ 24) : i.natAbs.log2 < 80 := PySem.Flt.log2_lt_of (k := 80) (by decide) (Nat.lt_trans h (by decide))
theorem Shw.int {i : Int} (h : i.natAbs < 10 ^ 24) : Shw (.int i) 80 1 := by
  have h1 := log_lt h
  refine ⟨?_, rfl, ?_, ?_, ?_⟩
  · simp only [PyData.showable, decide_eq_true_eq]
    omega
  · simp only [PyData.leavesShort, decide_eq_true_eq]
    have e := int_text_length_le10 (k := 24) (by decide) h
    show (Str.ofString (toString i)).length ≤ 25
    rw [PySem.ofString_length]
    exact e
  · simp only [PyData.weight]
    split
    · omega
    · omega
  · simp only [PyData.depth]
    omega
theorem Shw.all {W D : Nat} : ∀ ds : List PyData, (∀ d ∈ ds, Shw d W D) → PyData.showableAll ds = true ∧ PyData.hasDictAll ds = false ∧ PyData.leavesShortAll 25 ds = true ∧ PyData.weightAll ds ≤ ds.length * (W + 1) ∧ PyData.depthAll ds ≤ D
  | [], _ => ⟨rfl, rfl, rfl, Nat.zero_le _, Nat.zero_le _⟩
  | d :: ds, h => by
    obtain ⟨a1, a2, a3, a4, a5⟩ := Shw.all ds fun e he => h e (List.mem_cons_of_mem _ he)
    obtain ⟨b1, b2, b3, b4, b5⟩ := h d List.mem_cons_self
    refine ⟨?_, ?_, ?_, ?_, ?_⟩
    · simp only [PyData.showableAll, b1, a1, Bool.and_self]
    · simp only [PyData.hasDictAll, b2, a2, Bool.or_self]
    · simp only [PyData.leavesShortAll, b3, a3, Bool.and_self]
    · simp only [PyData.weightAll, List.length_cons, Nat.succ_mul]
      omega
    · simp only [PyData.depthAll]
      omega
theorem Shw.list {W D : Nat} {ds : List PyData} (h : ∀ d ∈ ds, Shw d W D) : Shw (.list ds) (ds.length * (W + 1)) (D + 1) := by
  obtain ⟨a1, a2, a3, a4, a5⟩ := Shw.all ds h
  exact ⟨by simpa only [PyData.showable] using a1, by simpa only [PyData.hasDict] using a2, by simpa only [PyData.leavesShort] using a3, by simpa only [PyData.weight] using a4, by simp only [PyData.depth]; omega⟩
theorem Shw.tuple {W D : Nat} {ds : List PyData} (h : ∀ d ∈ ds, Shw d W D) : Shw (.tuple ds) (ds.length * (W + 1)) (D + 1) := by
  obtain ⟨a1, a2, a3, a4, a5⟩ := Shw.all ds h
  exact ⟨by simpa only [PyData.showable] using a1, by simpa only [PyData.hasDict] using a2, by simpa only [PyData.leavesShort] using a3, by simpa only [PyData.weight] using a4, by simp only [PyData.depth]; omega⟩
theorem Shw.mono {d : PyData} {W W' D D' : Nat} (s : Shw d W D) (h : W ≤ W') (h' : D ≤ D') : Shw d W' D' := ⟨s.1, s.2, s.3, Nat.le_trans s.4 h, Nat.le_trans s.5 h'⟩
theorem Shw.nums {ns : List Int} (h : ∀ x ∈ ns, x.natAbs < 10 ^ 24) : Shw (dInts ns) (ns.length * 81) 2 := by
  have := Shw.list (ds := ns.map .int) (W := 80) (D := 1) fun d hd => by
    obtain ⟨x, hx, rfl⟩ := List.mem_map.mp hd
    exact Shw.int (h x hx)
  rw [List.length_map] at this
  exact this
theorem Shw.two {d e : PyData} {W D : Nat} (h1 : Shw d W D) (h2 : Shw e W D) : Shw (.list [d, e]) (2 * (W + 1)) (D + 1) :=
  Shw.list (ds := [d, e]) fun x hx => by
    simp only [List.mem_cons, List.not_mem_nil, or_false] at hx
    rcases hx with rfl | rfl
    · exact h1
    · exact h2
theorem ne_str {x y : Str} {A B : Prop} (h : x = y) (b : B) : if (!decide (V.str x = V.str y)) = true then A else B := by
  rw [h, decide_eq_true rfl]
  exact iteF b
theorem Shw.lay {L : Lay} (h : L.nice) : Shw L.dat 4860 2 := by
  obtain ⟨h0, h1⟩ := h
  cases L with
  | pol ns =>
    obtain ⟨h1, h2⟩ := h1
    exact (Shw.nums fun x hx => by have := h2 x hx; omega).mono (by omega) (Nat.le_refl _)
  | con w n =>
    obtain ⟨h1, h2⟩ := h1
    have h3 := LayAt.con_pos h0
    have h3 : 1 ≤ n := h3
    rw [Lay.ok_con, Bool.and_eq_true] at h0
    have h4 := of_decide_eq_true h0.1
    refine (Shw.tuple (ds := [.int w, .int n]) (W := 80) (D := 1) fun d hd => ?_).mono (by show 2 * 81 ≤ 4860; decide) (Nat.le_refl _)
    simp only [List.mem_cons, List.not_mem_nil, or_false] at hd
    rcases hd with rfl | rfl
    · exact Shw.int (by omega)
    · exact Shw.int (by omega)
theorem Shw.nest {Ls : List Lay} {m : Nat} (h : ∀ L ∈ Ls, L.nice) (hl : Ls.length ≤ m) : Shw (.list (Ls.map Lay.dat)) (m * 4861) 3 := by
  refine (Shw.list (ds := Ls.map Lay.dat) (W := 4860) (D := 2) fun d hd => ?_).mono (by rw [List.length_map]; exact Nat.mul_le_mul_right _ hl) (Nat.le_refl _)
  obtain ⟨L, hL, rfl⟩ := List.mem_map.mp hd
  exact Shw.lay (h L hL)
end Rn

set_option Elab.async false
set_option linter.all false
set_option maxRecDepth 100000
set_option maxHeartbeats 4000000
/-! # own errors over ValueError: super().__init__('..'), then self.value = value -/
namespace PySem
namespace VeX
open PySem.W PySem.Calls PyProof.Rows PySem.HandSPX
def iA (p1 p2 : Pos) : Arguments := { posonlyargs := [], args := [{ arg := "self", annotation := none, pos := p1 }, { arg := "value", annotation := none, pos := p2 }], vararg := none, kwonlyargs := [], kw_defaults := [], kwarg := none, defaults := [] }
def iB (msg : Str) (q1 q2 q3 q4 q5 q6 q7 q8 q9 q10 : Pos) : List Stmt :=
  [.Expr (.Call (.Attribute (.Call (.Name "super" q1) [] [] q2) "__init__" q3) [.Constant (.str msg) 0 q4] [] q5) q6, .Assign [.Attribute (.Name "self" q7) "value" q8] (.Name "value" q9) q10]
def iS : Scope := { kind := .function, names := [(PySem.Str.ofString "self", .local), (PySem.Str.ofString "value", .local), (PySem.Str.ofString "__class__", .free), (PySem.Str.ofString "super", .globalImplicit)], isGenerator := false, isCoroutine := false, more := [] }
/-- what the written part says of the class named xn, at C, and of its __init__, at fI -/
structure VeTxt (prog : Program) (K : Frag) (mg : Str → Option Value) (xn : Str) (C fI : Addr) : Prop where
  gC : mg xn = some (.ref C)
  gS : mg "super" = none
  cls : ∃ nm q N bs bm sn sub ab col dd k0 k1 k2 k3 k5, K.lookup C = some (excClassObj nm q C N bs bm true sn sub ab col dd k0 k1 k2 k3 k5 "ValueError.__new__") ∧ refsVE bm = true
  sa : findIn K (.ref C) "__setattr__" = some (some (.builtin "object.__setattr__"))
  ga : findIn K (.ref C) "__getattribute__" = some (some (.builtin "BaseException.__getattribute__"))
  gg : findIn K (.ref C) "__getattr__" = some none
  noN : findIn K (.ref C) "value" = some none
  iC : findIn K (.ref C) "__init__" = some (some (.ref fI))
  tC : typeIn K (.ref fI) = some (.type "function")
  kC : keepIn K (.ref C) = true
  exC : subIn K (.ref C) (.type "BaseException") = some true
  veC : subIn K (.ref C) (.type "ValueError") = some true
  tyC : typeIn K (.ref C) = some (.type "type")
  hdC : hasDictIn K C = true
  mroC : mroIn K C (.ref C) = some true
  sup : ks_superIn K C C "__init__" = some (some (.builtin "ValueError.__init__"))
  op : nsIn K cStatics "thirdparty.any" = some none
  top : (prog.main.scope.names.lookup ("super" : Str)).isSome = false
  fn : ∃ (oc : Value) (od : Option Addr) (doc pm : Value) (an : Option Addr) (cc cda : Addr) (ct : Value) (osl : Array (Option Value)) (p1 p2 q1 q2 q3 q4 q5 q6 q7 q8 q9 q10 : Pos) (msg qual : Str) (ccl cl : Value) (cdd cld : Option Addr) (ccs csl : Array (Option Value)) (vs : Array Value) (file : Str) (tf : Tok),
    K.lookup fI = some ⟨oc, od, .func (ksFn "__init__" qual (iA p1 p2) (iB msg q1 q2 q3 q4 q5 q6 q7 q8 q9 q10) iS .none .none doc pm an (.ref cda) ct cc), osl⟩ ∧ codeIn K (.ref cda) qual = true ∧ (q3.endLine == q5.line) = true ∧
    K.lookup cda = some ⟨ccl, cdd, .fields vs, ccs⟩ ∧ vs[2]? = some (.str file tf) ∧ ((prog.main.file : Str) == file) = true ∧ K.lookup cc = some ⟨cl, cld, .cell (some (.ref C)), csl⟩
structure InitEnd (h h' : Heap) (x C dx t1 : Addr) (v : Value) : Prop where
  keep : ∀ b o, b ≠ x → h.get? b = some o → h'.get? b = some o
  obj : h'.get? x = some { cls := .ref C, dict := some dx, data := .fields #[.ref t1, .none, .none, .none, .bool false, .none] }
  dbig : h.objs.size ≤ dx
  dne : dx ≠ x
  ns : h'.Ns1 dx (fun y => if y = "value" then some v else none)
structure OwnMade (h h' : Heap) (e C d : Addr) (v : Value) : Prop where
  keep : ∀ b o, h.get? b = some o → h'.get? b = some o
  new : h.objs.size ≤ e
  obj : ∃ oe vs, h'.get? e = some oe ∧ oe.cls = .ref C ∧ oe.dict = some d ∧ oe.data = .fields vs ∧ vs[1]? = some .none
  dbig : h.objs.size ≤ d
  dne : d ≠ e
  ns : h'.Ns1 d (fun y => if y = "value" then some v else none)
section
variable {prog : Program} {w : World} {M : Model} {A : Around} {E : Value → Shared → Prop} {s : Shared}
theorem cw1 {pos : Pos} {u x : Addr} {i : String} {env : Env} {e : Expr} {rest : List Expr} {Q : Value → Shared → Prop}
    (h : wpAny M A (spliced (backTo pos (starEach (e :: rest) env))) (fun vs s₁ => KxsAt i u x s₁.heap ∧ wpAny M A (call (.ref u) vs) Q E s₁) E s)
    (he : starEach (e :: rest) env = (false, eval e env) :: starEach rest env := by rfl) (hplain : (backTo pos (starEach rest env)).any (·.1) = false := by rfl) :
    wpAny M A (callWith pos (.ref u) [] (backTo pos (starEach (e :: rest) env)) []) Q E s := by
  rw [he] at h ⊢
  refine kxs_callWith (i := i) (x := x) (by show (false || (backTo pos (starEach rest env)).any (·.1)) = false; rw [hplain]; rfl) ?_
  exact evalArgs_plain h
end
section
variable {prog : Program} {w : World} {A : Around} {c : Code} {E : Value → Shared → Prop} {s : Shared} {env : Env}
theorem mcall {o : Expr} {name : Str} {apos pos : Pos} {args : List Expr} {Q : Value → Shared → Prop} (hline : (apos.endLine == pos.line) = true)
    (h : _root_.PySem.wpAt (model prog w) A c (attributeBase o name env (eval o env)) (fun ov s₁ => wpAny (model prog w) A (getMethod ov name (do return (← importBound o env).getD true)) (fun fx s₂ => wpAny (model prog w) A (callWith pos fx.1 fx.2 (backTo pos (starEach args env)) []) Q E s₂) E s₁) E s)
    (hfew : methodCallForm (args.length + ([] : List Keyword).length) (backTo pos (starEach args env)) (backToKw pos (keywordEach [] env)) = true := by rfl) :
    _root_.PySem.wpAt (model prog w) A c (eval (.Call (.Attribute o name apos) args [] pos) env) Q E s := by
  rw [arm_eval_Call]
  have hpos : methodCallPos true o env apos pos = pure pos := by unfold methodCallPos; simp [hline]
  refine wpAt_bind (wpAt_mono h (fun ov s₁ h₁ => wpAt_of_wpAny (wpAny_bind (wpAny_standAt ?_))) fun _ _ x => x)
  unfold methodCall
  rw [hfew]
  exact wpAny_bind (wpAny_holding (wpAny_mono h₁ (fun fx s₂ h₂ => wpAny_bind (wpAny_of_eq hpos h₂)) fun _ _ x => x))
end
section
variable {prog : Program} {w : World} {A : Around} {E : Value → Shared → Prop} {h : Heap} {g : Array GenState} {d : Drawn} {t : Nat} {os : OsState}
variable {nm q : Str} {C N : Addr} {bs bm : List Value} {hdct : Bool} {sn : List Str} {sub : List Value} {ab : Bool} {col : Option Bool} {dd : Option Addr} {k0 k1 k2 k3 k5 : Option Value}
theorem call_bwV {u e t0 : Addr} {rest : List Value} {Q : Value → Shared → Prop}
    (hC : h.get? C = some (excClassObj nm q C N bs bm hdct sn sub ab col dd k0 k1 k2 k3 k5 "ValueError.__new__")) (he : h.get? e = some (HandSPX.excO C t0)) (hu : KxsAt "ValueError.__init__" u e h) (hrest : rest.length ≤ sizeLine)
    (hq : ∀ h' t1, (∀ b o, b ≠ e → h.get? b = some o → h'.get? b = some o) → h'.get? e = some (HandSPX.excO C t1) → h.objs.size ≤ h'.objs.size → Q .none ⟨h', g, d, t, os⟩) :
    wpAny (model prog w) A (call (.ref u) rest) Q E ⟨h, g, d, t, os⟩ := by
  have hu : h.get? u = some (kxs_mw "ValueError.__init__" e) := hu
  refine wpAny_call (codeAny_of_tree ?_)
  show wpAny _ A.in1 (callAny (.ref u) ⟨rest, []⟩) _ _ _
  simp only [callAny]
  refine wpAny_bind (wpAny_load hu ?_)
  simp only [kxs_mw, show (Value.type "method-wrapper" == Value.type "method" || Value.type "method-wrapper" == Value.type "builtin_function_or_method" || Value.type "method-wrapper" == Value.type "method-wrapper") = true by decide, if_true]
  refine W.KFB.if_so (by decide) ?_
  refine wpAny_bind (ESX.check_bound F.excBase_ValueError hC he rfl ?_)
  refine wpAny_bind (wpAny_pure (wpAny_pure ?_))
  refine ⟨Code.quiet_builtin _ (by decide +kernel), codeAny_builtin F.excBase_ValueError.initEntry ?_⟩
  rw [Around.under_plainId F.excBase_ValueError.init.plain _]
  wp_walk
  refine hq _ h.objs.size (fun b o hb ho => ?_) ?_ ?_
  · rw [Heap.get?_update_other _ _ (Ne.symm hb)]
    exact Heap.get?_push_of_some _ ho
  · rw [Heap.get?_update_self _ (Heap.get?_push_of_some _ he) rfl]
    rfl
  · simp
end
section
variable {prog : Program} {w : World} {A : Around} {E : Value → Shared → Prop} {R : Result → Shared → Prop} {s : Shared} {K : Frag} {mg mb : Str → Option Value} {xn : Str} {C fI : Addr}
theorem one_size (v : Value) : [v].length ≤ sizeLine := by
  rw [sizeLine_eq]
  exact (by decide : 1 ≤ 16777216)
theorem ve_init (T : VeTxt prog K mg xn C fI) {x t0 : Addr} {v : Value} (X : K.In s.heap) (hg : s.heap.Ns mainGlobals mg) (hb : s.heap.Ns builtinsNs mb) (hbo : mb "super" = some (.type "super")) (hlim : s.heap.NoLimit) (hx : s.heap.get? x = some (excO C t0)) (hnx : K.lookup x = none) (hroom : A.depth < recursionLimit)
    (hq : ∀ h' tk dx t1, InitEnd s.heap h' x C dx t1 v → R (.ok (.ret .none)) { s with heap := h', toks := tk }) :
    codeAny (model prog w) A (.call (.ref fI) ⟨[.ref x, v], []⟩) R s := by
  obtain ⟨oc, od, doc, pm, an, cc, cda, ct, osl, p1, p2, q1, q2, q3, q4, q5, q6, q7, q8, q9, q10, msg, qual, ccl, cl, cdd, cld, ccs, csl, vs, file, tf, ho, hcd, hline, hcode, hvs, hfile, hcell⟩ := T.fn
  obtain ⟨nm, q, N, bs, bm, sn, sub, ab, col, dd, k0, k1, k2, k3, k5, hC, hbm⟩ := T.cls
  have hcl : clsIn K C = some { name := nm, bases := bs, mro := .ref C :: bm, ns := N, qualname := q, hasDict := true, slotNames := sn, subclasses := sub, abstract := ab, collection := col, hasDel := false } := by unfold clsIn; rw [hC] <;> rfl
  refine ks_codeAny_call_defAt (fd := ksFn "__init__" qual (iA p1 p2) (iB msg q1 q2 q3 q4 q5 q6 q7 q8 q9 q10) iS .none .none doc pm an (.ref cda) ct cc) (body := iB msg q1 q2 q3 q4 q5 q6 q7 q8 q9 q10) (binds := [("self", .ref x), ("value", v)]) hroom (X _ _ ho) rfl hlim (codeRec_of X hcd) rfl (BindsTo.of_eq (by first | rfl | with_unfolding_all rfl)) (by show ∀ y ∈ iS.names, y.2 ≠ .cell; decide +kernel) (by intro y hy; simp only [List.mem_cons, List.not_mem_nil, or_false] at hy; rcases hy with rfl | rfl <;> rfl) (fun h₀ hns k => ?_) rfl rfl rfl
  have X₀ : K.In h₀ := X.keeps k
  have hx₀ := k _ _ hx
  have hxL : s.heap.objs.size ≠ x := Nat.ne_of_gt (Heap.lt_size hx)
  show _root_.PySem.wpAt _ _ _ (execs (iB msg q1 q2 q3 q4 q5 q6 q7 q8 q9 q10) (ksEnv qual iS s.heap.objs.size fI (.ref cda) cc)) _ _ _
  unfold iB
  refine ks_wpAt_execs_cons (ks_wpAt_Expr_any (mcall hline ?_))
  refine ks_wpAt_super_base (fd := ksFn "__init__" qual (iA p1 p2) (iB msg q1 q2 q3 q4 q5 q6 q7 q8 q9 q10) iS .none .none doc pm an (.ref cda) ct cc) (ar := { arg := "self", annotation := none, pos := p1 }) (by rfl) (by rfl) (by decide +kernel) rfl (X₀ _ _ ho) rfl rfl rfl (X₀ _ _ hcode) rfl hvs hfile T.top ?_
  refine ks_loadName_global rfl (by rfl) (loadGlobal_builtin (hg.keeps k) T.gS (hb.keeps k) hbo ⟨rfl, ?_⟩)
  refine wpAny_loadName_free rfl (by rfl) rfl ⟨_, X₀ _ _ hcell, rfl⟩ ?_
  refine wpAny_loadName_local (v := .ref x) rfl (by rfl) hns (by first | rfl | with_unfolding_all rfl | kernel_rfl) ?_
  refine ks_wpAny_isType_cls (X₀ _ _ hC) rfl ⟨rfl, ?_⟩
  refine ks_wpAny_call_super (X₀ _ _ hC) rfl hx₀ rfl (fun c e => by cases e) (looks_mroIn X₀ T.mroC) (fun h₁ e₁ k₁ => ?_)
  have X₁ : K.In h₁ := X₀.keeps k₁
  have hx₁ := k₁ _ _ hx₀
  have I₁ : InstAt h₁ x (excO C t0) C none := ⟨hx₁, rfl, rfl, trivial⟩
  have hm := T.sup
  unfold ks_superIn at hm
  rw [hcl] at hm
  refine kxs_getMethod kxs_ValueError e₁ (looks_opaque X₁ T.op) (l₀ := .ref C :: bm) (fun A Q E s k q => wpAny_bind ((looks_clsIn X₁ hcl) A _ E s k (wpAny_pure q))) rfl X₁ hm (I₁.type.andThen (looks_subIn X₁ T.veC)) (ks_ne X₁ I₁ hcl) (by decide +kernel) ?_
  have k₂ : ∀ b o, h₁.get? b = some o → (h₁.push (kxs_mw "ValueError.__init__" x)).get? b = some o := fun b o e => Heap.get?_push_of_some _ e
  refine cw1 (i := "ValueError.__init__") (x := x) (args_cons (wpAny_Constant_str (args_nil ⟨Heap.get?_push_at rfl rfl, ?_⟩)))
  refine call_bwV ((X₁.keeps k₂) _ _ hC) (k₂ _ _ hx₁) (Heap.get?_push_at rfl rfl) (one_size _) (fun h₃ t1 k₃ e₃ hs₃ => ?_)
  have kall : ∀ b o, b ≠ x → h₀.get? b = some o → h₃.get? b = some o := fun b o hb e => k₃ b o hb (k₂ b o (k₁ b o e))
  have X₃ : K.In h₃ := fun a o e => kall _ _ (fun z => by rw [z, hnx] at e; cases e) (X₀ _ _ e)
  refine wpAt_of_wpAny ?_
  show wpAny _ _ (execs _ _) _ _ _
  refine wpAny_execs_cons (plainObj_wpAny_Assign_Attribute ?_)
  have hn₃ : h₃.Ns s.heap.objs.size (fun y => ([(("self" : Str), Value.ref x), (("value" : Str), v)] : List (Str × Value)).reverse.lookup y) := by
    obtain ⟨o, es, ep, ho', r⟩ := hns
    exact ⟨o, es, ep, kall _ _ hxL ho', r⟩
  refine ESX.ldL (v := v) hn₃ (by first | rfl | with_unfolding_all rfl | kernel_rfl) (ESX.ldL (v := .ref x) hn₃ (by first | rfl | with_unfolding_all rfl | kernel_rfl) ?_)
  refine set_plain X₃ (ox := excO C t1) (od := none) ⟨e₃, rfl, rfl, trivial⟩ T.sa ?_
  refine exc_osa X₃ e₃ hcl (show refsVE (.ref C :: bm) = true from hbm) rfl T.noN (fun h₄ tk₄ dx k₄ dn dne hx₄ hn₄ => ?_)
  show wpAny _ _ (execs _ _) _ _ _
  have hsz : s.heap.objs.size ≤ h₃.objs.size := Nat.le_of_lt hn₃.lt
  exact wpAny_execs_nil (hq h₄ tk₄ dx t1 ⟨fun b o hb e => k₄ b o hb (kall b o hb (k b o e)), hx₄, Nat.le_trans hsz dn, dne, hn₄⟩)
theorem ve_made (T : VeTxt prog K mg xn C fI) {v : Value} (X : K.In s.heap) (hg : s.heap.Ns mainGlobals mg) (hb : s.heap.Ns builtinsNs mb) (hbo : mb "super" = some (.type "super")) (hlim : s.heap.NoLimit) (hroom : A.depth + 1 < recursionLimit)
    (hq : ∀ h' tk e d, OwnMade s.heap h' e C d v → R (.ok (.ret (.ref e))) { s with heap := h', toks := tk }) :
    codeAny (model prog w) A (.call (.ref C) ⟨[v], []⟩) R s := by
  obtain ⟨nm, q, N, bs, bm, sn, sub, ab, col, dd, k0, k1, k2, k3, k5, hC, hbm⟩ := T.cls
  obtain ⟨hp, g, dr, tk, os⟩ := s
  have k : ∀ b o, hp.get? b = some o → ((hp.push (kdv_tup [v])).push (excO C hp.objs.size)).get? b = some o := fun b o e => Heap.get?_push_of_some _ (Heap.get?_push_of_some _ e)
  have hget : ((hp.push (kdv_tup [v])).push (excO C hp.objs.size)).get? (hp.objs.size + 1) = some (excO C hp.objs.size) := by heap_get
  have hnx : K.lookup (hp.objs.size + 1) = none := by
    cases e : K.lookup (hp.objs.size + 1) with
    | none => rfl
    | some o =>
      have z : hp.get? (hp.objs.size + 1) = some o := X _ _ e
      exact absurd (Nat.lt_of_succ_lt (Heap.lt_size z)) (Nat.lt_irrefl _)
  refine call_own F.excBase_ValueError (fun X => refsVE_contains X bm hbm) (X _ _ hC) (looks_findIn X T.iC) (fun self => bind_fn X self T.tC) (one_size v) ?_
  refine ve_init (s := ⟨(hp.push (kdv_tup [v])).push (excO C hp.objs.size), g, dr, tk, os⟩) T (X.keeps k) (hg.keeps k) (hb.keeps k) hbo (hlim.keeps k) hget hnx ?_ fun h' tk' dx t1 ⟨k', hx, dn, dne, hns⟩ => ?_
  · show A.depth + 1 < recursionLimit
    exact hroom
  · have old : ∀ b o, hp.get? b = some o → h'.get? b = some o := fun b o e => k' b o (Nat.ne_of_lt (Nat.lt_succ_of_lt (Heap.lt_size e))) (k b o e)
    have z : hp.objs.size + 1 + 1 ≤ dx := by
      first
        | (simpa only [Heap.size_push] using dn)
        | exact dn
        | (have q := dn; rw [Heap.size_push, Heap.size_push] at q; exact q)
    exact ⟨rfl, hq h' tk' (hp.objs.size + 1) dx ⟨old, Nat.le_succ _, ⟨_, _, hx, rfl, rfl, rfl, rfl⟩, Nat.le_trans (Nat.le_trans (Nat.le_succ _) (Nat.le_succ _)) z, dne, hns⟩⟩
theorem ve_sup {nm q nR qR : Str} {N CR NR : Addr} {bs bR bm : List Value} {hd hdR : Bool} {sn snR : List Str} {sub subR : List Value} {ab abR : Bool} {col colR : Option Bool} {dd ddR : Option Addr} {k0 k1 k2 k3 k5 r0 r1 r2 r3 r5 : Option Value} {n1 n2 : String} {u : Value}
    (xL : K.lookup C = some (excClassObj nm q C N bs (.ref CR :: bm) hd sn sub ab col dd k0 k1 k2 k3 k5 n1)) (xR : K.lookup CR = some (excClassObj nR qR CR NR bR bm hdR snR subR abR colR ddR r0 r1 r2 r3 r5 n2)) (fR : findIn K (.ref CR) "__init__" = some (some u)) : ks_superIn K C C "__init__" = some (some u) := by
  have fR' : alongIn K "__init__" (.ref CR :: bm) = some (some u) := by
    unfold findIn at fR
    dsimp only at fR
    rw [xR] at fR
    exact fR
  unfold ks_superIn clsIn
  rw [xL]
  show alongIn K "__init__" (((Value.ref C :: .ref CR :: bm).dropWhile (· != .ref C)).drop 1) = _
  rw [ESX.drop_own]
  exact fR'
theorem ve_mk {h : Heap} {nm q : Str} {N : Addr} {bs bm : List Value} {sn : List Str} {sub : List Value} {ab : Bool} {col : Option Bool} {dd : Option Addr} {k0 k1 k2 k3 k5 : Option Value} {qual : Str}
    {oc : Value} {od : Option Addr} {doc pm : Value} {an : Option Addr} {cc cda : Addr} {ct : Value} {osl : Array (Option Value)} {p1 p2 q1 q2 q3 q4 q5 q6 q7 q8 q9 q10 : Pos} {msg : Str} {ccl cl : Value} {cdd cld : Option Addr} {ccs csl : Array (Option Value)} {vs : Array Value} {file : Str} {tf : Tok}
    (X : K.In h) (G : h.Ns mainGlobals mg) (aC : nsIn K mainGlobals xn = some (some (.ref C))) (aS : nsIn K mainGlobals "super" = some none) (xL : K.lookup C = some (excClassObj nm q C N bs bm true sn sub ab col dd k0 k1 k2 k3 k5 "ValueError.__new__")) (hbm : refsVE bm = true)
    (sa : findIn K (.ref C) "__setattr__" = some (some (.builtin "object.__setattr__"))) (ga : findIn K (.ref C) "__getattribute__" = some (some (.builtin "BaseException.__getattribute__"))) (gg : findIn K (.ref C) "__getattr__" = some none) (noN : findIn K (.ref C) "value" = some none)
    (iC : findIn K (.ref C) "__init__" = some (some (.ref fI))) (tC : typeIn K (.ref fI) = some (.type "function")) (kC : keepIn K (.ref C) = true) (exC : subIn K (.ref C) (.type "BaseException") = some true) (veC : subIn K (.ref C) (.type "ValueError") = some true)
    (tyC : typeIn K (.ref C) = some (.type "type")) (hdC : hasDictIn K C = true) (mroC : mroIn K C (.ref C) = some true) (sup : ks_superIn K C C "__init__" = some (some (.builtin "ValueError.__init__"))) (op : nsIn K cStatics "thirdparty.any" = some none) (top : (prog.main.scope.names.lookup ("super" : Str)).isSome = false)
    (lI : K.lookup fI = some ⟨oc, od, .func (ksFn "__init__" qual (iA p1 p2) (iB msg q1 q2 q3 q4 q5 q6 q7 q8 q9 q10) iS .none .none doc pm an (.ref cda) ct cc), osl⟩) (cI : codeIn K (.ref cda) qual = true) (hl : (q3.endLine == q5.line) = true)
    (cd : K.lookup cda = some ⟨ccl, cdd, .fields vs, ccs⟩) (fv : vs[2]? = some (.str file tf)) (fm : ((prog.main.file : Str) == file) = true) (ce : K.lookup cc = some ⟨cl, cld, .cell (some (.ref C)), csl⟩) : VeTxt prog K mg xn C fI :=
  { gC := mg_of X G aC, gS := mg_none_of X G aS, cls := ⟨nm, q, N, bs, bm, sn, sub, ab, col, dd, k0, k1, k2, k3, k5, xL, hbm⟩, sa := sa, ga := ga, gg := gg, noN := noN, iC := iC, tC := tC, kC := kC, exC := exC, veC := veC, tyC := tyC, hdC := hdC, mroC := mroC, sup := sup, op := op, top := top,
    fn := ⟨oc, od, doc, pm, an, cc, cda, ct, osl, p1, p2, q1, q2, q3, q4, q5, q6, q7, q8, q9, q10, msg, qual, ccl, cl, cdd, cld, ccs, csl, vs, file, tf, lI, cI, hl, cd, fv, fm, ce⟩ }
end
end VeX
end PySem
namespace Rn
open PySem PySem.Spec PyProof.Rows L2
theorem relO_val {v : V} {v' : Value} (r : RelV v v') (f : Str) : RelO (List.lookup f [(("value" : Str), v)]) (if f = "value" then some v' else none) := by
  by_cases hw : f = "value"
  · subst hw
    rw [if_pos rfl]
    have q : List.lookup ("value" : Str) [(("value" : Str), v)] = some v := by simp [List.lookup]
    rw [q]
    exact r
  · rw [if_neg hw]
    have qw : (f == ("value" : Str)) = false := by simpa using hw
    have q2 : List.lookup f [(("value" : Str), v)] = none := by simp [List.lookup, qw]
    rw [q2]
    trivial
section
variable {X : Cx} {C fI : Addr} {xn : Str}
/-- X(e) -/
def tMkVe (C : Addr) (ta : TA) : L2.St → Hp → XK → Prop := fun σ H Q => ta σ H fun vs H1 => ∃ v, vs = [v] ∧ ∀ d, H1 d = none → Q (.ref C) (some d) (upd H1 d (.xd [(("value" : Str), v)]))
theorem pmk_ve {a : Expr} {ta : TA} {p pos : Pos} {k : Nat} (T : PySem.VeX.VeTxt X.prog X.K X.mg xn C fI) (hr : Room k X.A) (ha : PA X [a] ta) (hg : Gl X xn := by rfl)
    (hdb : (xn == ("__debug__" : Str)) = false := by decide)
    (he : starEach (a :: []) X.env = (false, eval a X.env) :: starEach [] X.env := by rfl) (hpl : (backTo pos (starEach [] X.env)).any (·.1) = false := by rfl) :
    PMk X (.Call (.Name xn p) [a] [] pos) (tMkVe C ta) := by
  intro pins s σ H Q I h
  refine wpAny_Call_Name_kw (ld_glob I hg T.gC ?_ hdb)
  refine PySem.W.callWith_K (h₀ := X.base) I.ok.mod.kin T.kC (thn (ha.run pos pins s σ H _ I h) fun us s1 hh => ?_) he hpl
  obtain ⟨vs, H1, I1, r1, v, ev, q1⟩ := hh
  subst ev
  refine ⟨I1.kIn, ?_⟩
  cases r1 with
  | cons rv rn =>
    rename_i v' us'
    cases rn
    show wpAny _ _ (call (.ref C) [v']) _ _ _
    have hlim := I1.nolimit
    obtain ⟨mb, hmb, hbo⟩ := I1.ok.mod.blt
    have kb : ∀ b o, X.base.get? b = some o → s1.heap.get? b = some o := I1.bk
    have hG := I1.ok.mod.glob.keeps kb
    have hB := hmb.keeps kb
    have hS : mb "super" = some (.type "super") := (hbo _ (by decide +kernel)).trans (by first | rfl | kernel_rfl)
    obtain ⟨hp, g, dr, tk, os⟩ := s1
    refine wpAny_call (PySem.VeX.ve_made T I1.kIn hG hB hS hlim (by have := hr.dp; omega) fun h' tk' e d M => ?_)
    show MkP X pins σ Q (.ref e) ⟨h', g, dr, tk', os⟩
    obtain ⟨oe, fv, hoe, hc, hd, hdat, h1⟩ := M.obj
    have hns := M.ns
    obtain ⟨G', g1, g2⟩ := restrict h' fun b => decide (b ≠ e)
    have gk : ∀ b, b ≠ e → G'.get? b = h'.get? b := fun b hb => g1 b (decide_eq_true hb)
    have ge : G'.get? e = none := g2 e (by simp)
    have old : ∀ b o, hp.get? b = some o → G'.get? b = some o := fun b o q => (gk b (Nat.ne_of_lt (Nat.lt_of_lt_of_le (Heap.lt_size q) M.new))).trans (M.keep b o q)
    have ob : ObjOk X.prog X.w (upd H1 d (.xd [(("value" : Str), v)])) G' d (.xd [(("value" : Str), v)]) :=
      ⟨_, hns.at (fun o q => (gk d M.dne).trans q), fun f => relO_val rv f⟩
    have J : Inv X pins σ (upd H1 d (.xd [(("value" : Str), v)])) ⟨G', g, dr, tk', os⟩ := I1.laid (t' := tk') old M.dbig ob
    refine ⟨e, oe, fv, ⟨G', g, dr, tk', os⟩, _, .ref C, some d, rfl, J, fun b o q => ?_, ge, hoe, ⟨hc, hd⟩, hdat, h1, ?_, rfl, I1.bare, raises_own T.exC T.tyC, q1 d (I1.hok.fresh M.dbig)⟩
    · by_cases hb : b = e
      · have q' : G'.get? b = some o := q
        rw [hb, ge] at q'; cases q'
      · exact (gk b hb).symm.trans q
    · rw [upd_ne (Ne.symm M.dne)]
      exact I1.hok.fresh M.new
/-- raise X(e) -/
def tRaiseVe (C : Addr) (W : WX) (ta : TA) : TS := fun _ σ H => tMkVe C ta σ H fun cls d H' => W cls d σ H'
theorem ps_raiseVe {a : Expr} {ta : TA} {W : WX} {p pos pos2 : Pos} {k : Nat} (hc : X.calm = true) (T : PySem.VeX.VeTxt X.prog X.K X.mg xn C fI) (hr : Room k X.A) (tk : Takes X W) (ha : PA X [a] ta) (hg : Gl X xn := by rfl)
    (hdb : (xn == ("__debug__" : Str)) = false := by decide)
    (he : starEach (a :: []) X.env = (false, eval a X.env) :: starEach [] X.env := by rfl) (hpl : (backTo pos (starEach [] X.env)).any (·.1) = false := by rfl) :
    PS X (.Raise (some (.Call (.Name xn p) [a] [] pos)) none pos2) (tRaiseVe C W ta) := ps_raise hc tk (pmk_ve T hr ha hg hdb he hpl)
/-- e.value, e the exception that the suite holds (at a; its class cls, its dict d) -/
def tValOf (P : Program) (K : PySem.W.Frag) (mg : Str → Option Value) (a : Addr) (cls : Value) (d : Option Addr) (te : TE) : TE := fun σ H Q => te σ H fun x H1 => x = .ref a ∧ ∃ (xn : Str) (C fI : Addr), PySem.VeX.VeTxt P K mg xn C fI ∧ cls = .ref C ∧ ∃ (dd : Addr) (v : V), d = some dd ∧ H1 dd = some (.xd [(("value" : Str), v)]) ∧ Q v H1
theorem pe_valOf {a : Addr} {oe : Obj} {cls : Value} {d : Option Addr} {pn : List (Addr × Obj)} {e : Expr} {te : TE} {pos : Pos} (hz : Zc cls d oe) (hf : ∃ vs, oe.data = .fields vs) (he : PE (X.suite a ((a, oe) :: pn)) e te)
    (hb : attributeBase e "value" X.env (eval e X.env) = eval e X.env := by rfl) :
    PE (X.suite a ((a, oe) :: pn)) (.Attribute e "value" pos) (tValOf X.prog X.K X.mg a cls d te) := by
  refine ⟨fun pins s σ H Q I h => ?_⟩
  refine attr_of hb (thn (he.run pins s σ H _ I h) fun u s1 hh => ?_)
  obtain ⟨x, H1, I1, rx, ex, xn, C, fI, T, ec, dd, v, ed, ea, q⟩ := hh
  subst ex
  obtain rfl : u = Value.ref a := rx
  subst ec
  subst ed
  obtain ⟨ha, _⟩ := I1.pin (a, oe) (List.mem_append_left _ List.mem_cons_self)
  obtain ⟨vs, hd⟩ := hf
  have hx : ObjOk X.prog X.w H1 s1.heap dd (.xd [(("value" : Str), v)]) := I1.hok dd _ ea
  obtain ⟨mA, hns, hr⟩ := hx
  obtain ⟨od, ho, hl⟩ := lookIn_ns hns
  have l : List.lookup ("value" : Str) [(("value" : Str), v)] = some v := by simp [List.lookup]
  obtain ⟨u, hu, ru⟩ := RelO.some_of (v := v) (o := mA "value") (by rw [← l]; exact hr "value")
  have J : PySem.W.InstAt s1.heap a oe C (some od) := ⟨ha, hz.1, by unfold PySem.W.notCls; rw [hd] <;> rfl, by rw [hz.2]; exact ho⟩
  exact HandSPX.exc_get I1.kIn J T.ga T.gg T.exC (PySem.W.findObj_own T.hdC T.noN rfl (by rw [hl, hu])) (handed_of ru) ⟨v, H1, I1.tok _, ru, q⟩
end
/-- an error of the class at S is what «except D» names -/
theorem exm_is {K : PySem.W.Frag} {S D : Addr} {b : Bool} (h1 : PySem.W.subIn K (.ref D) (.type "BaseException") = some true) (h2 : PySem.W.isClsIn K D = true) (h3 : PySem.W.typeIn K (.ref D) = some (.type "type")) (h4 : PySem.W.subIn K (.ref S) (.ref D) = some b) :
    PySem.W.exmOne K (.ref S) (.ref D) = some b := by
  have e1 : (PySem.W.subIn K (.ref D) (.type "BaseException") == some true) = true := by rw [h1] <;> rfl
  have e2 : ((PySem.W.clsIn K D).isSome && PySem.W.typeIn K (.ref D) == some (.type "type")) = true := by
    have h2' : (PySem.W.clsIn K D).isSome = true := h2
    rw [h2', h3] <;> rfl
  show (if (PySem.W.subIn K (.ref D) (.type "BaseException") == some true) = true then (if ((PySem.W.clsIn K D).isSome && PySem.W.typeIn K (.ref D) == some (.type "type")) = true then PySem.W.subIn K (.ref S) (.ref D) else none) else none) = some b
  rw [if_pos e1, if_pos e2]
  exact h4
/-- a def that raises nothing where its promise leaves no way for it -/
theorem calm0 {P : Program} {w : World} {K : PySem.W.Frag} {mg : Str → Option Value} {base : Heap} {k : Nat} {f : Addr} {fd : FuncData} {ps : List Str} {sp sp0 : Sp} (F : FnOk P w K mg base (L2.CX P w) k f fd ps sp) (h : ∀ vs H Q E, sp0 vs H Q E → sp vs H Q (fun _ _ _ => False)) : FnOk P w K mg base CX0 k f fd ps sp0 :=
  ⟨fun vs H Q E q => F.len vs H Q _ (h _ _ _ _ q), fun A outer s H args us vs Q E hr he hb hv hs => codeAny_mono (F.run A outer s H args us vs Q _ hr he hb hv (h _ _ _ _ hs)) fun r s' z => by
    cases r with
    | error e =>
      obtain ⟨_, _, _, _, _, _, _, _, _, _, _, _, z⟩ := z
      exact z.elim
    | ok fl => cases fl <;> exact z⟩
end Rn

set_option Elab.async false
set_option linter.all false
set_option maxRecDepth 100000
set_option maxHeartbeats 4000000
namespace Rn
open PySem PySem.Spec PyProof.Rows L2
/-! ## ** of great ints -/
def CPowW (i j : Int) : Prop := 0 ≤ j ∧ (Builtin.Int.intBits i : Int) * j ≤ 2 ^ 27
theorem op_powW {X : Cx} : OpR X (binaryOp .Pow) (rI CPowW fun i j => .int (i ^ j.toNat)) := opI fun _ _ _ _ _ _ _ hc q => pow_int hc.1 hc.2 q
theorem pow_ok {i : Int} {k : Nat} (h : i.natAbs < 2 ^ k) (h0 : 0 < k) (hk : k ≤ 1000) : CPowW i 3 := by
  refine ⟨by decide, ?_⟩
  have h1 := PySem.Flt.log2_lt_of h0 h
  have h2 : Builtin.Int.intBits i ≤ i.natAbs.log2 + 1 := by
    unfold Builtin.Int.intBits
    split <;> omega
  omega
/-! ## the other source of draws: three ints in one list -/
def Rng (H : Hp) (a : Addr) (n : Int) : Prop := ∃ dg seed cnt : Int, H a = some (.lst [.int dg, .int seed, .int cnt]) ∧ 0 ≤ seed ∧ seed < 4000000000000000000 ∧ 0 ≤ cnt ∧ cnt ≤ n
theorem Rng.same {H H' : Hp} {a : Addr} {n : Int} (s : Rng H a n) (e : Same H H') : Rng H' a n := by
  obtain ⟨dg, seed, cnt, h, r⟩ := s
  exact ⟨dg, seed, cnt, e _ _ h, r⟩
theorem Rng.keep {H : Hp} {a p : Addr} {o : HO} {n : Int} (s : Rng H a n) (ha : p ≠ a) : Rng (upd H p o) a n := by
  obtain ⟨dg, seed, cnt, h, r⟩ := s
  exact ⟨dg, seed, cnt, by rw [upd_ne ha.symm]; exact h, r⟩
theorem Rng.mono {H : Hp} {a : Addr} {n m : Int} (s : Rng H a n) (h : n ≤ m) : Rng H a m := by
  obtain ⟨dg, seed, cnt, h1, h2, h3, h4, h5⟩ := s
  exact ⟨dg, seed, cnt, h1, h2, h3, h4, Int.le_trans h5 h⟩
theorem Rng.new1 {H : Hp} {a p : Addr} {n : Int} (s : Rng H a n) (h : H p = none) : p ≠ a := by
  obtain ⟨dg, seed, cnt, h1, _⟩ := s
  exact (ne_of_none h1 h).symm
structure Rdv (a : Addr) (c : Int) (H H' : Hp) : Prop where
  same : Same (hid a a H) (hid a a H')
  src : ∀ n, Rng H a n → Rng H' a (n + c)
theorem Rdv.refl {a : Addr} {H : Hp} : Rdv a 0 H H := ⟨Same.refl _, fun n s => s.mono (by omega)⟩
theorem Rdv.trans {a : Addr} {c c' e : Int} {H H1 H2 : Hp} (x : Rdv a c H H1) (y : Rdv a c' H1 H2) (h : c + c' ≤ e) : Rdv a e H H2 :=
  ⟨x.same.trans y.same, fun n s => (y.src _ (x.src _ s)).mono (by omega)⟩
theorem Rdv.mono {a : Addr} {c e : Int} {H H1 : Hp} (x : Rdv a c H H1) (h : c ≤ e) : Rdv a e H H1 := ⟨x.same, fun n s => (x.src _ s).mono (by omega)⟩
theorem Rdv.of {a : Addr} {H H' : Hp} (e : Same H H') : Rdv a 0 H H' := ⟨hid_same e, fun n s => (s.same e).mono (by omega)⟩
theorem Rdv.mut {a : Addr} {c : Int} {H H' : Hp} {p : Addr} {o : HO} {n : Int} (x : Rdv a c H H') (s : Rng H a n) (h : H p = none) : Rdv a c H (upd H' p o) := by
  have h1 := s.new1 h
  refine ⟨?_, fun m t => (x.src m t).keep h1⟩
  rw [hid_oth h1 h1]
  exact same_keep x.same (hid_none h)
theorem Rdv.free {a p : Addr} {c n : Int} {H H' : Hp} (x : Rdv a c H H') (s : Rng H a n) (h : H' p = none) : H p = none := by
  have h1 := (x.src n s).new1 h
  cases q : H p with
  | none => rfl
  | some o =>
    have e := (hid_get (x.same p o (hid_at q h1 h1))).1
    rw [h] at e
    cases e
theorem Rdv.made {a : Addr} {c dg seed cnt dg' cnt' : Int} {H H' : Hp} (e : Same (hid a a H) (hid a a H')) (h : H a = some (.lst [.int dg, .int seed, .int cnt]))
    (h' : H' a = some (.lst [.int dg', .int seed, .int cnt'])) (h0 : cnt ≤ cnt') (h1 : cnt' ≤ cnt + c) : Rdv a c H H' := by
  refine ⟨e, fun n s => ?_⟩
  obtain ⟨d2, s2, c2, a1, a3, a4, a5, a6⟩ := s
  rw [h] at a1
  cases a1
  exact ⟨dg', seed, cnt', h', a3, a4, by omega, by omega⟩
/-! ## an expression cut off by a word of its own -/
def tCutE (t : TE) : TE := fun σ H Q => ∃ R : V → Hp → Prop, t σ H R ∧ ∀ v H', R v H' → Q v H'
theorem pe_cutE {X : Cx} {e : Expr} {t : TE} (h : PE X e t) : PE X e (tCutE t) := ⟨fun pins s σ H Q I hw =>
  let ⟨R, h1, h2⟩ := hw
  thn (h.run pins s σ H R I h1) fun v s1 ⟨x, H1, I1, r1, q1⟩ => ⟨x, H1, I1, r1, h2 _ _ q1⟩⟩
end Rn

set_option Elab.async false
set_option linter.all false
set_option maxRecDepth 100000
set_option maxHeartbeats 4000000
namespace Rn
open PySem PySem.Spec PyProof.Rows L2
/-! ## waits and times by number -/
def Lay.n (L : Lay) : Nat := L.cnt.toNat
theorem Lay.n_cnt {L : Lay} (h : L.ok = true) : (L.n : Int) = L.cnt := by
  have := LayAt.con_pos h
  unfold Lay.n
  omega
theorem Lay.n_pos {L : Lay} (h : L.ok = true) : 1 ≤ L.n := by
  have := LayAt.con_pos h
  unfold Lay.n
  omega
def Lay.wt : Lay → Nat → Int
  | .pol ns, j => ns.getD (j - 1) 0
  | .con w _, _ => w
def Lay.pt : Lay → Nat → Int
  | .pol ns, j => (ns.take j).sum
  | .con w _, j => w * (j : Int)
def waitN : List Lay → Nat → Int
  | [], _ => 0
  | L :: Ls, i => if i % L.n = 0 then waitN Ls (i / L.n) else L.wt (i % L.n)
def timeN : List Lay → Nat → Int
  | [], _ => 0
  | L :: Ls, i => ((i / L.n : Nat) : Int) * L.pt (L.n - 1) + L.pt (i % L.n) + timeN Ls (i / L.n)
def attN : List Lay → Nat
  | [] => 1
  | L :: Ls => L.n * attN Ls
theorem attOf_from : ∀ (Ls : List Lay) (t : Int), Ls.foldl (fun t L => t * L.cnt) t = t * attOf Ls
  | [], t => by
    show t = t * 1
    rw [Int.mul_one]
  | L :: Ls, t => by
    unfold attOf
    rw [List.foldl_cons, List.foldl_cons, attOf_from Ls, attOf_from Ls (1 * L.cnt), Int.one_mul, Int.mul_assoc]
theorem attOf_consT (L : Lay) (Ls : List Lay) : attOf (L :: Ls) = L.cnt * attOf Ls := by
  unfold attOf
  rw [List.foldl_cons, attOf_from, Int.one_mul]
  rfl
theorem attN_of : ∀ {Ls : List Lay}, (∀ L ∈ Ls, L.ok = true) → (attN Ls : Int) = attOf Ls
  | [], _ => rfl
  | L :: Ls, h => by
    rw [attOf_consT, ← attN_of (Ls := Ls) fun M hM => h M (List.mem_cons_of_mem _ hM), ← Lay.n_cnt (h L List.mem_cons_self)]
    show ((L.n * attN Ls : Nat) : Int) = _
    push_cast
    rfl
theorem attN_pos : ∀ {Ls : List Lay}, (∀ L ∈ Ls, L.ok = true) → 1 ≤ attN Ls
  | [], _ => Nat.le_refl _
  | L :: Ls, h => by
    have h1 := Lay.n_pos (h L List.mem_cons_self)
    have h2 := attN_pos (Ls := Ls) fun M hM => h M (List.mem_cons_of_mem _ hM)
    exact Nat.mul_le_mul h1 h2
theorem Lay.waits_n {L : Lay} (h : L.ok = true) : L.waits.length + 1 = L.n := by
  have := waits_len h
  have := Lay.n_cnt h
  omega
theorem Lay.wt_get {L : Lay} {j : Nat} (h : L.ok = true) (h1 : 1 ≤ j) (h2 : j < L.n) : L.waits[j - 1]? = some (L.wt j) := by
  have hl := Lay.waits_n h
  have hj : j - 1 < L.waits.length := by omega
  rw [List.getElem?_eq_getElem hj]
  cases L with
  | pol ns =>
    show some (ns[j - 1]) = some (ns.getD (j - 1) 0)
    have hj' : j - 1 < ns.length := hj
    rw [List.getD_eq_getElem?_getD, List.getElem?_eq_getElem hj']
    rfl
  | con w n =>
    have hj' : j - 1 < (List.replicate (n - 1).toNat w).length := hj
    exact congrArg some (List.getElem_replicate hj')
theorem Lay.pt_succ {L : Lay} {j : Nat} (h : L.ok = true) (h2 : j + 1 < L.n) : L.pt (j + 1) = L.pt j + L.wt (j + 1) := by
  cases L with
  | pol ns =>
    have hl : ns.length + 1 = (Lay.pol ns).n := Lay.waits_n h
    have hj : j < ns.length := by omega
    show (ns.take (j + 1)).sum = (ns.take j).sum + ns.getD (j + 1 - 1) 0
    rw [List.take_add_one, List.sum_append, Nat.add_sub_cancel, List.getD_eq_getElem?_getD, List.getElem?_eq_getElem hj]
    simp
  | con w n =>
    show w * ((j + 1 : Nat) : Int) = w * (j : Int) + w
    push_cast
    rw [Int.mul_add, Int.mul_one]
theorem Lay.pt_zero (L : Lay) : L.pt 0 = 0 := by
  cases L with
  | pol ns => rfl
  | con w n =>
    show w * ((0 : Nat) : Int) = 0
    simp
theorem flat_wait : ∀ (Ls : List Lay), (∀ L ∈ Ls, L.ok = true) → ∀ j, j < (flatL Ls).length → (flatL Ls)[j]? = some (waitN Ls (j + 1))
  | [], _, j, h => by cases h
  | L :: Ls, h, j, hj => by
    have hL := h L List.mem_cons_self
    have hM : ∀ M ∈ Ls, M.ok = true := fun M hM => h M (List.mem_cons_of_mem _ hM)
    have hn := Lay.waits_n hL
    have hp := Lay.n_pos hL
    rw [flatL_cons h] at hj ⊢
    rw [nestL_get _ _ _ hj, hn]
    have hlen := nestL_len L.waits (flatL Ls)
    rw [hn] at hlen
    have hd := Nat.div_add_mod (j + 1) L.n
    show _ = some (if (j + 1) % L.n = 0 then waitN Ls ((j + 1) / L.n) else L.wt ((j + 1) % L.n))
    by_cases h0 : (j + 1) % L.n = 0
    · rw [if_pos h0, if_pos h0]
      have h1 : 1 ≤ (j + 1) / L.n := by
        rcases Nat.eq_zero_or_pos ((j + 1) / L.n) with z | z
        · rw [z, h0] at hd
          omega
        · exact z
      have h2 : (j + 1) / L.n < (flatL Ls).length + 1 := by
        rw [Nat.div_lt_iff_lt_mul (by omega), Nat.mul_comm, ← hlen]
        omega
      rw [flat_wait Ls hM _ (by omega), Nat.sub_add_cancel h1]
    · rw [if_neg h0, if_neg h0]
      exact Lay.wt_get hL (by omega) (Nat.mod_lt _ (by omega))
theorem flat_attN {Ls : List Lay} (h : ∀ L ∈ Ls, L.ok = true) : (flatL Ls).length + 1 = attN Ls := by
  have h1 := flatL_len _ Ls rfl h
  have h2 := attN_of h
  omega
/-- the next number by its digits -/
theorem step_mod {n i : Nat} (hn : 1 ≤ n) (h : (i + 1) % n ≠ 0) : (i + 1) / n = i / n ∧ (i + 1) % n = i % n + 1 ∧ i % n + 1 < n := by
  have h1 := Nat.div_add_mod i n
  have h2 := Nat.mod_lt i (show n > 0 by omega)
  have hlt : i % n + 1 < n := by
    apply Nat.lt_of_le_of_ne (by omega)
    intro e
    apply h
    have e2 : i + 1 = n * (i / n + 1) := by rw [Nat.mul_add, Nat.mul_one]; omega
    rw [e2]
    exact Nat.mul_mod_right _ _
  have e : i + 1 = (i % n + 1) + n * (i / n) := by omega
  refine ⟨?_, ?_, hlt⟩
  · rw [e, Nat.add_mul_div_left _ _ (by omega), Nat.div_eq_of_lt hlt, Nat.zero_add]
  · rw [e, Nat.add_mul_mod_self_left, Nat.mod_eq_of_lt hlt]
theorem step_div {n i : Nat} (hn : 1 ≤ n) (h : (i + 1) % n = 0) : (i + 1) / n = i / n + 1 ∧ i % n = n - 1 := by
  have h1 := Nat.div_add_mod i n
  have h2 := Nat.mod_lt i (show n > 0 by omega)
  have h3 := Nat.div_add_mod (i + 1) n
  rw [h] at h3
  have e : i % n = n - 1 := by
    by_cases c : i % n + 1 < n
    · exfalso
      have e : i + 1 = (i % n + 1) + n * (i / n) := by omega
      rw [e, Nat.add_mul_mod_self_left, Nat.mod_eq_of_lt c] at h
      omega
    · omega
  refine ⟨?_, e⟩
  have e2 : i + 1 = n * (i / n + 1) := by rw [Nat.mul_add, Nat.mul_one]; omega
  rw [e2, Nat.mul_div_cancel_left _ (by omega)]
theorem time_succ : ∀ {Ls : List Lay} {i : Nat}, (∀ L ∈ Ls, L.ok = true) → i + 1 < attN Ls → timeN Ls (i + 1) = timeN Ls i + waitN Ls (i + 1)
  | [], i, _, h => by
    have : i + 1 < 1 := h
    omega
  | L :: Ls, i, h, hi => by
    have hL := h L List.mem_cons_self
    have hM : ∀ M ∈ Ls, M.ok = true := fun M hM => h M (List.mem_cons_of_mem _ hM)
    have hp := Lay.n_pos hL
    show ((((i + 1) / L.n : Nat) : Int)) * L.pt (L.n - 1) + L.pt ((i + 1) % L.n) + timeN Ls ((i + 1) / L.n) = ((i / L.n : Nat) : Int) * L.pt (L.n - 1) + L.pt (i % L.n) + timeN Ls (i / L.n) + (if (i + 1) % L.n = 0 then waitN Ls ((i + 1) / L.n) else L.wt ((i + 1) % L.n))
    by_cases h0 : (i + 1) % L.n = 0
    · obtain ⟨e1, e2⟩ := step_div hp h0
      have hi' : i / L.n + 1 < attN Ls := by
        rw [← e1, Nat.div_lt_iff_lt_mul (by omega), Nat.mul_comm]
        exact hi
      rw [if_pos h0, h0, e1, e2, Lay.pt_zero, time_succ hM hi']
      push_cast
      rw [Int.add_mul, Int.one_mul]
      omega
    · obtain ⟨e1, e2, e3⟩ := step_mod hp h0
      rw [if_neg h0, e1, e2, Lay.pt_succ hL e3]
      omega
theorem time_zero : ∀ Ls : List Lay, timeN Ls 0 = 0
  | [] => rfl
  | L :: Ls => by
    show (((0 / L.n : Nat) : Int)) * L.pt (L.n - 1) + L.pt (0 % L.n) + timeN Ls (0 / L.n) = 0
    rw [Nat.zero_div, Nat.zero_mod, Lay.pt_zero, time_zero Ls]
    simp
theorem time_take {Ls : List Lay} (h : ∀ L ∈ Ls, L.ok = true) : ∀ i, i < attN Ls → timeN Ls i = ((flatL Ls).take i).sum
  | 0, _ => by
    rw [time_zero]
    rfl
  | i + 1, hi => by
    have hl := flat_attN h
    rw [time_succ h hi, time_take h i (by omega), List.take_add_one, flat_wait Ls h i (by omega), List.sum_append]
    simp
/-- a layer whose numbers are small -/
def Lay.fair (L : Lay) : Prop := L.ok = true ∧ L.cnt < 2 ^ 100 ∧ match L with
  | .pol ns => ns.length ≤ 20000 ∧ ∀ x ∈ ns, 0 ≤ x ∧ x < 1000000000000
  | .con w _ => 0 ≤ w ∧ w < 1000000000000
theorem Lay.nice.fair {L : Lay} (h : L.nice) : L.fair := by
  have h2 := nice_cnt h
  obtain ⟨h0, h1⟩ := h
  refine ⟨h0, h2, ?_⟩
  cases L with
  | pol ns => exact ⟨by have := h1.1; omega, h1.2⟩
  | con w n =>
    rw [Lay.ok_con, Bool.and_eq_true] at h0
    exact ⟨of_decide_eq_true h0.1, h1.1⟩
theorem sum_bound : ∀ {ns : List Int}, (∀ x ∈ ns, 0 ≤ x ∧ x < 1000000000000) → 0 ≤ ns.sum ∧ ns.sum ≤ (ns.length : Int) * 1000000000000
  | [], _ => by simp
  | x :: ns, h => by
    have h1 := sum_bound (ns := ns) fun y hy => h y (List.mem_cons_of_mem _ hy)
    have h2 := h x List.mem_cons_self
    rw [List.sum_cons, List.length_cons]
    push_cast
    rw [Int.add_mul, Int.one_mul]
    omega
theorem Lay.pt_bound {L : Lay} {j : Nat} (h : L.fair) (hj : j < L.n) : 0 ≤ L.pt j ∧ (L.pt j).natAbs < 2 ^ 150 := by
  obtain ⟨h0, h1, h2⟩ := h
  cases L with
  | pol ns =>
    obtain ⟨h3, h4⟩ := h2
    obtain ⟨b1, b2⟩ := sum_bound (ns := ns.take j) fun x hx => h4 x (List.mem_of_mem_take hx)
    have b3 : ((ns.take j).length : Int) ≤ 20000 := by
      have := List.length_take_le' j ns
      omega
    have b4 : ((ns.take j).length : Int) * 1000000000000 ≤ 20000 * 1000000000000 := Int.mul_le_mul_of_nonneg_right b3 (by decide)
    refine ⟨b1, ?_⟩
    show ((ns.take j).sum).natAbs < 2 ^ 150
    omega
  | con w n =>
    obtain ⟨w0, w1⟩ := h2
    have hc : (Lay.con w n).cnt = n := rfl
    have hn := Lay.n_cnt h0
    rw [hc] at h1 hn
    refine ⟨Int.mul_nonneg w0 (by omega), ?_⟩
    show (w * (j : Int)).natAbs < 2 ^ 150
    have := wide_lt (i := w) (j := (j : Int)) (a := 40) (b := 100) (by omega) (by omega)
    exact Nat.lt_of_lt_of_le this (Nat.pow_le_pow_right (by decide) (by decide))
theorem noPy {i j : Int} {b : Nat} (h : 0 < j) (hb : j.natAbs < 2 ^ b) (h0 : 0 < b) (h9 : b ≤ 9000) : CDivP i j := ⟨h, PyProof.noPylong_of_log2 (wide_div (i := i) h hb h0 h9).2⟩
theorem pow_ok5 {i : Int} {k : Nat} (h : i.natAbs < 2 ^ k) (h0 : 0 < k) (hk : k ≤ 1000) : CPowW i 5 := by
  refine ⟨by decide, ?_⟩
  have h1 := PySem.Flt.log2_lt_of h0 h
  have h2 : Builtin.Int.intBits i ≤ i.natAbs.log2 + 1 := by
    unfold Builtin.Int.intBits
    split <;> omega
  omega
theorem nice_waits {L : Lay} (h : L.nice) : ∀ x ∈ L.waits, 0 ≤ x ∧ x < 1000000000000 := fun x hx => by
  obtain ⟨h0, h1⟩ := h
  cases L with
  | pol ns => exact h1.2 x hx
  | con w n =>
    rw [Lay.ok_con, Bool.and_eq_true] at h0
    have e := (List.mem_replicate.mp (show x ∈ List.replicate (n - 1).toNat w from hx)).2
    rw [e]
    exact ⟨of_decide_eq_true h0.1, h1.1⟩
theorem flat_nice : ∀ Ls : List Lay, (∀ L ∈ Ls, L.nice) → ∀ x ∈ flatL Ls, 0 ≤ x ∧ x < 1000000000000
  | [], _, x, hx => by cases hx
  | L :: Ls, h, x, hx => by
    rw [flatL_cons fun M hM => (h M hM).1] at hx
    rcases nestL_mem hx with z | z
    · exact nice_waits (h L List.mem_cons_self) x z
    · exact flat_nice Ls (fun M hM => h M (List.mem_cons_of_mem _ hM)) x z
theorem pol_fair {ws : List Int} (h : ∀ x ∈ ws, 0 ≤ x ∧ x < 1000000000000) (hl : ws.length ≤ 20000) : (Lay.pol ws).fair :=
  ⟨pol_ok h, by show (ws.length : Int) + 1 < 2 ^ 100; omega, hl, h⟩
theorem one_wait {ws : List Int} {i : Nat} (h1 : 1 ≤ i) (h2 : i < ws.length + 1) : waitN [.pol ws] i = ws.getD (i - 1) 0 := by
  have hn : (Lay.pol ws).n = ws.length + 1 := by
    show ((ws.length : Int) + 1).toNat = _
    omega
  show (if i % (Lay.pol ws).n = 0 then _ else (Lay.pol ws).wt (i % (Lay.pol ws).n)) = _
  rw [hn, Nat.mod_eq_of_lt h2, if_neg (by omega)]
  rfl
theorem one_time {ws : List Int} {i : Nat} (h2 : i < ws.length + 1) : timeN [.pol ws] i = (ws.take i).sum := by
  have hn : (Lay.pol ws).n = ws.length + 1 := by
    show ((ws.length : Int) + 1).toNat = _
    omega
  show ((i / (Lay.pol ws).n : Nat) : Int) * _ + (Lay.pol ws).pt (i % (Lay.pol ws).n) + 0 = _
  rw [hn, Nat.mod_eq_of_lt h2, Nat.div_eq_of_lt h2]
  show ((0 : Nat) : Int) * _ + (ws.take i).sum + 0 = _
  simp
theorem one_att {ws : List Int} : attN [.pol ws] = ws.length + 1 := by
  show (Lay.pol ws).n * 1 = _
  rw [Nat.mul_one]
  show ((ws.length : Int) + 1).toNat = _
  omega
/-! ## the wait of an outer layer, and those beside it -/
theorem attN_app : ∀ As Bs : List Lay, attN (As ++ Bs) = attN As * attN Bs
  | [], Bs => by
    show attN Bs = 1 * attN Bs
    rw [Nat.one_mul]
  | A :: As, Bs => by
    show A.n * attN (As ++ Bs) = A.n * attN As * attN Bs
    rw [attN_app As Bs, Nat.mul_assoc]
theorem attN_dvd {A : Lay} : ∀ {As : List Lay}, A ∈ As → A.n ∣ attN As
  | [], h => nomatch h
  | B :: As, h => by
    show A.n ∣ B.n * attN As
    rcases List.mem_cons.mp h with z | z
    · rw [z]
      exact Nat.dvd_mul_right _ _
    · exact Nat.dvd_trans (attN_dvd z) (Nat.dvd_mul_left _ _)
theorem attN_ones : ∀ {As : List Lay}, (∀ A ∈ As, A.n = 1) → attN As = 1
  | [], _ => rfl
  | A :: As, h => by
    show A.n * attN As = 1
    rw [h A List.mem_cons_self, attN_ones fun B hB => h B (List.mem_cons_of_mem _ hB)]
theorem wait_ones : ∀ {As : List Lay} (Bs : List Lay) (i : Nat), (∀ A ∈ As, A.n = 1) → waitN (As ++ Bs) i = waitN Bs i
  | [], Bs, i, _ => rfl
  | A :: As, Bs, i, h => by
    show (if i % A.n = 0 then waitN (As ++ Bs) (i / A.n) else A.wt (i % A.n)) = waitN Bs i
    rw [h A List.mem_cons_self, Nat.mod_one, if_pos rfl, Nat.div_one]
    exact wait_ones Bs i fun B hB => h B (List.mem_cons_of_mem _ hB)
theorem wait_mid {L : Lay} {part : Nat} (runs : Nat) (Bs : List Lay) (h1 : 1 ≤ part) (h2 : part < L.n) : ∀ {As : List Lay}, (∀ A ∈ As, A.ok = true) → waitN (As ++ L :: Bs) (attN As * (part + L.n * runs)) = L.wt part
  | [], _ => by
    show (if (1 * (part + L.n * runs)) % L.n = 0 then waitN Bs ((1 * (part + L.n * runs)) / L.n) else L.wt ((1 * (part + L.n * runs)) % L.n)) = L.wt part
    rw [Nat.one_mul, Nat.add_mul_mod_self_left, Nat.mod_eq_of_lt h2, if_neg (by omega)]
  | A :: As, h => by
    have hA := Lay.n_pos (h A List.mem_cons_self)
    have ih := wait_mid runs Bs h1 h2 (As := As) fun B hB => h B (List.mem_cons_of_mem _ hB)
    show (if (A.n * attN As * (part + L.n * runs)) % A.n = 0 then waitN (As ++ L :: Bs) ((A.n * attN As * (part + L.n * runs)) / A.n) else A.wt ((A.n * attN As * (part + L.n * runs)) % A.n)) = L.wt part
    rw [Nat.mul_assoc, Nat.mul_mod_right, if_pos rfl, Nat.mul_div_cancel_left _ (by omega)]
    exact ih
theorem wait_after {A : Lay} (Bs : List Lay) {N : Nat} (h : A.n ∣ N) (h1 : 1 < A.n) : waitN (A :: Bs) (N + 1) = A.wt 1 := by
  obtain ⟨q, rfl⟩ := h
  show (if (A.n * q + 1) % A.n = 0 then _ else A.wt ((A.n * q + 1) % A.n)) = _
  rw [Nat.mul_add_mod, Nat.mod_eq_of_lt h1, if_neg (by decide)]
theorem wait_before {A : Lay} (Bs : List Lay) {N : Nat} (h : A.n ∣ N) (h0 : 1 ≤ N) (h1 : 1 < A.n) : waitN (A :: Bs) (N - 1) = A.wt (A.n - 1) := by
  obtain ⟨q, rfl⟩ := h
  obtain ⟨k, rfl⟩ : ∃ k, q = k + 1 := ⟨q - 1, by
    cases q with
    | zero => rw [Nat.mul_zero] at h0; omega
    | succ k => rfl⟩
  have e : A.n * (k + 1) - 1 = A.n * k + (A.n - 1) := by rw [Nat.mul_add, Nat.mul_one]; omega
  show (if (A.n * (k + 1) - 1) % A.n = 0 then _ else A.wt ((A.n * (k + 1) - 1) % A.n)) = _
  rw [e, Nat.mul_add_mod, Nat.mod_eq_of_lt (by omega), if_neg (by omega)]
theorem big8 {Ls : List Lay} {m : Nat} (h : ∀ L ∈ Ls, L.ok = true ∧ L.cnt < 2 ^ 100) (hl : Ls.length ≤ m) : 0 < attOf Ls ∧ (attOf Ls).natAbs < 2 ^ (100 * m + 1) := by
  obtain ⟨h1, h2⟩ := attOf_lt _ Ls rfl h
  exact ⟨h1, Nat.lt_of_lt_of_le h2 (Nat.pow_le_pow_right (by decide) (by omega))⟩
theorem lay_low {a d : Addr} {G : Hp} {v : V} {L : Lay} (h : LayAt (hid a d G) v L) : LayAt G v L := by
  cases L with
  | pol ns => obtain ⟨y, e, z⟩ := h; exact ⟨y, e, (hid_get z).1⟩
  | con c n => obtain ⟨y, e, z⟩ := h; exact ⟨y, e, (hid_get z).1⟩
/-! ## numbers by their parts -/
def nI (ps : List Nat) : List Int := ps.map fun x : Nat => (x : Int)
inductive Pts : List Lay → List Nat → Prop
  | nil : Pts [] []
  | cons {L : Lay} {p : Nat} {Ls : List Lay} {ps : List Nat} (h : p < L.n) (t : Pts Ls ps) : Pts (L :: Ls) (p :: ps)
theorem Pts.len {Ls : List Lay} {ps : List Nat} (h : Pts Ls ps) : ps.length = Ls.length := by
  induction h with
  | nil => rfl
  | cons _ _ ih => rw [List.length_cons, List.length_cons, ih]
theorem Pts.get {Ls : List Lay} {ps : List Nat} (h : Pts Ls ps) : ∀ {i : Nat} {L : Lay}, Ls[i]? = some L → ∃ p, ps[i]? = some p ∧ p < L.n := by
  induction h with
  | nil => intro i L h; cases h
  | cons hp _ ih =>
    intro i L h
    cases i with
    | zero => cases h; exact ⟨_, rfl, hp⟩
    | succ i => exact ih h
theorem Pts.snoc {Ls : List Lay} {ps : List Nat} (h : Pts Ls ps) {L : Lay} {p : Nat} (hp : p < L.n) : Pts (Ls ++ [L]) (ps ++ [p]) := by
  induction h with
  | nil => exact .cons hp .nil
  | cons hq _ ih => exact .cons hq ih
theorem Pts.take {Ls : List Lay} {ps : List Nat} (h : Pts Ls ps) : ∀ i, Pts (Ls.take i) (ps.take i) := by
  induction h with
  | nil => intro i; rw [List.take_nil, List.take_nil]; exact .nil
  | cons hq _ ih =>
    intro i
    cases i with
    | zero => exact .nil
    | succ i => exact .cons hq (ih i)
theorem Pts.last : ∀ {Ls : List Lay}, (∀ L ∈ Ls, L.ok = true) → Pts Ls (Ls.map fun L => L.n - 1)
  | [], _ => .nil
  | L :: Ls, h => .cons (by have := Lay.n_pos (h L List.mem_cons_self); show L.n - 1 < L.n; omega) (Pts.last fun M hM => h M (List.mem_cons_of_mem _ hM))
def numL : List Lay → List Nat → Nat
  | L :: Ls, p :: ps => p + L.n * numL Ls ps
  | _, _ => 0
theorem numL_snoc {Ls : List Lay} {ps : List Nat} (h : Pts Ls ps) (L : Lay) (p : Nat) : numL (Ls ++ [L]) (ps ++ [p]) = numL Ls ps + p * attN Ls := by
  induction h with
  | nil =>
    show p + L.n * 0 = 0 + p * 1
    omega
  | cons hq _ ih =>
    rename_i M q Ms qs _
    show q + M.n * numL (Ms ++ [L]) (qs ++ [p]) = q + M.n * numL Ms qs + p * (M.n * attN Ms)
    rw [ih, Nat.mul_add, Nat.add_assoc, Nat.mul_left_comm]
theorem numL_lt {Ls : List Lay} {ps : List Nat} (h : Pts Ls ps) : numL Ls ps < attN Ls := by
  induction h with
  | nil => exact Nat.zero_lt_one
  | cons hq _ ih =>
    rename_i M q Ms qs _
    show q + M.n * numL Ms qs < M.n * attN Ms
    have : M.n * (numL Ms qs + 1) ≤ M.n * attN Ms := Nat.mul_le_mul_left _ ih
    rw [Nat.mul_add, Nat.mul_one] at this
    omega
theorem numL_last {Ls : List Lay} {ps : List Nat} (h : Pts Ls ps) (e : numL Ls ps + 1 = attN Ls) : ps = Ls.map fun L => L.n - 1 := by
  induction h with
  | nil => rfl
  | cons hq t ih =>
    rename_i M q Ms qs
    have e : q + M.n * numL Ms qs + 1 = M.n * attN Ms := e
    have lt := numL_lt t
    have e2 : numL Ms qs + 1 = attN Ms := by
      by_cases c : numL Ms qs + 1 = attN Ms
      · exact c
      · have : M.n * (numL Ms qs + 2) ≤ M.n * attN Ms := Nat.mul_le_mul_left _ (by omega)
        rw [Nat.mul_add] at this
        omega
    rw [← e2, Nat.mul_add, Nat.mul_one] at e
    rw [List.map_cons, ← ih e2, show q = M.n - 1 by omega]
theorem div_mod_add {n r q : Nat} (h : r < n) : (r + n * q) / n = q ∧ (r + n * q) % n = r := by
  refine ⟨?_, ?_⟩
  · rw [Nat.add_mul_div_left _ _ (by omega), Nat.div_eq_of_lt h, Nat.zero_add]
  · rw [Nat.add_mul_mod_self_left, Nat.mod_eq_of_lt h]
theorem time_cons (L : Lay) (Ls : List Lay) {r q : Nat} (h : r < L.n) : timeN (L :: Ls) (r + L.n * q) = (q : Int) * L.pt (L.n - 1) + L.pt r + timeN Ls q := by
  obtain ⟨e1, e2⟩ := div_mod_add (q := q) h
  show (((r + L.n * q) / L.n : Nat) : Int) * L.pt (L.n - 1) + L.pt ((r + L.n * q) % L.n) + timeN Ls ((r + L.n * q) / L.n) = _
  rw [e1, e2]
/-- the whole time of a nesting -/
def durN (Ls : List Lay) : Int := timeN Ls (attN Ls - 1)
theorem dur_cons {L : Lay} {Ls : List Lay} (h : ∀ M ∈ L :: Ls, M.ok = true) : durN (L :: Ls) = (attN Ls : Int) * L.pt (L.n - 1) + durN Ls := by
  have h1 := Lay.n_pos (h L List.mem_cons_self)
  have h2 := attN_pos (Ls := Ls) fun M hM => h M (List.mem_cons_of_mem _ hM)
  unfold durN
  have e : attN (L :: Ls) - 1 = (L.n - 1) + L.n * (attN Ls - 1) := by
    show L.n * attN Ls - 1 = _
    rw [Nat.mul_sub, Nat.mul_one]
    have : L.n * 1 ≤ L.n * attN Ls := Nat.mul_le_mul_left _ h2
    omega
  rw [e, time_cons L Ls (by omega)]
  have : ((attN Ls - 1 : Nat) : Int) = (attN Ls : Int) - 1 := by omega
  rw [this, Int.sub_mul, Int.one_mul]
  omega
theorem time_snoc {L : Lay} {part : Nat} (hp : part < L.n) : ∀ {As : List Lay} {num : Nat}, (∀ A ∈ As, A.ok = true) → num < attN As → timeN (As ++ [L]) (num + part * attN As) = timeN As num + (part : Int) * durN As + L.pt part
  | [], num, _, h => by
    have e : num = 0 := by have : num < 1 := h; omega
    subst e
    have := time_cons L [] (r := part) (q := 0) hp
    rw [Nat.mul_zero, Nat.add_zero] at this
    show timeN [L] (0 + part * 1) = 0 + (part : Int) * 0 + L.pt part
    rw [Nat.mul_one, Nat.zero_add, this]
    show ((0 : Nat) : Int) * _ + L.pt part + 0 = _
    simp
  | A :: As, num, h, hn => by
    have hA := Lay.n_pos (h A List.mem_cons_self)
    have hM : ∀ M ∈ As, M.ok = true := fun M hM => h M (List.mem_cons_of_mem _ hM)
    have hdm := Nat.div_add_mod num A.n
    have hml := Nat.mod_lt num (show A.n > 0 by omega)
    have hq : num / A.n < attN As := by
      rw [Nat.div_lt_iff_lt_mul (by omega), Nat.mul_comm]
      exact hn
    have e1 : num + part * attN (A :: As) = num % A.n + A.n * (num / A.n + part * attN As) := by
      show num + part * (A.n * attN As) = _
      rw [Nat.mul_add, Nat.mul_left_comm]
      omega
    have e2 : timeN (A :: As) num = ((num / A.n : Nat) : Int) * A.pt (A.n - 1) + A.pt (num % A.n) + timeN As (num / A.n) := rfl
    have ih := time_snoc hp (As := As) (num := num / A.n) hM hq
    rw [e1, e2, dur_cons h]
    show timeN (A :: (As ++ [L])) _ = _
    rw [time_cons A _ hml, ih]
    push_cast
    rw [Int.add_mul, Int.mul_add, Int.mul_assoc]
    omega
theorem dur_snoc {L : Lay} {As : List Lay} (hL : L.ok = true) (h : ∀ A ∈ As, A.ok = true) : durN (As ++ [L]) = L.cnt * durN As + L.pt (L.n - 1) := by
  have h1 := Lay.n_pos hL
  have h2 := attN_pos h
  have h3 := Lay.n_cnt hL
  have e : attN (As ++ [L]) - 1 = (attN As - 1) + (L.n - 1) * attN As := by
    rw [attN_app]
    show attN As * (L.n * 1) - 1 = _
    rw [Nat.mul_one, Nat.sub_mul, Nat.one_mul, Nat.mul_comm]
    have : 1 * attN As ≤ L.n * attN As := Nat.mul_le_mul_right _ h1
    omega
  have := time_snoc (L := L) (part := L.n - 1) (by omega) (As := As) (num := attN As - 1) h (by omega)
  unfold durN
  rw [e, this]
  have e2 : ((L.n - 1 : Nat) : Int) = L.cnt - 1 := by omega
  rw [e2, Int.sub_mul, Int.one_mul]
  unfold durN
  omega
theorem wt_bound {L : Lay} (h : L.fair) {j : Nat} (h1 : 1 ≤ j) (h2 : j < L.n) : 0 ≤ L.wt j ∧ L.wt j < 1000000000000 := by
  have g := Lay.wt_get h.1 h1 h2
  obtain ⟨h0, _, h3⟩ := h
  cases L with
  | pol ns => exact h3.2 _ (List.mem_of_getElem? g)
  | con w n => exact h3
theorem wait_bound : ∀ {Ls : List Lay} {i : Nat}, (∀ L ∈ Ls, L.fair) → 1 ≤ i → i < attN Ls → 0 ≤ waitN Ls i ∧ waitN Ls i < 1000000000000
  | [], i, _, h1, h2 => by
    have : i < 1 := h2
    omega
  | L :: Ls, i, h, h1, h2 => by
    have hL := h L List.mem_cons_self
    have hp := Lay.n_pos hL.1
    have hdm := Nat.div_add_mod i L.n
    have hml := Nat.mod_lt i (show L.n > 0 by omega)
    show 0 ≤ (if i % L.n = 0 then waitN Ls (i / L.n) else L.wt (i % L.n)) ∧ (if i % L.n = 0 then waitN Ls (i / L.n) else L.wt (i % L.n)) < 1000000000000
    by_cases c : i % L.n = 0
    · rw [if_pos c]
      refine wait_bound (fun M hM => h M (List.mem_cons_of_mem _ hM)) ?_ ?_
      · rcases Nat.eq_zero_or_pos (i / L.n) with z | z
        · rw [z, c] at hdm
          omega
        · exact z
      · rw [Nat.div_lt_iff_lt_mul (by omega), Nat.mul_comm]
        exact h2
    · rw [if_neg c]
      exact wt_bound hL (by omega) hml
theorem time_le {Ls : List Lay} (h : ∀ L ∈ Ls, L.fair) : ∀ i, i < attN Ls → 0 ≤ timeN Ls i ∧ timeN Ls i ≤ (i : Int) * 1000000000000
  | 0, _ => by
    rw [time_zero]
    simp
  | i + 1, hi => by
    have h1 := time_le h i (by omega)
    have h2 := wait_bound (i := i + 1) h (by omega) hi
    rw [time_succ (fun L hL => (h L hL).1) hi]
    push_cast
    rw [Int.add_mul, Int.one_mul]
    omega
theorem time_big {Ls : List Lay} {m i : Nat} (h : ∀ L ∈ Ls, L.fair) (hl : Ls.length ≤ m) (hi : i < attN Ls) : 0 ≤ timeN Ls i ∧ (timeN Ls i).natAbs < 2 ^ (100 * m + 1 + 40) := by
  obtain ⟨h1, h2⟩ := time_le h i hi
  refine ⟨h1, ?_⟩
  have hb := (big8 (m := m) (fun L hL => ⟨(h L hL).1, (h L hL).2.1⟩) hl).2
  have ha := attN_of (Ls := Ls) fun L hL => (h L hL).1
  have h3 : ((i : Int)).natAbs < 2 ^ (100 * m + 1) := Nat.lt_of_le_of_lt (by omega) hb
  have h4 := wide_lt (i := (i : Int)) (j := 1000000000000) (a := 100 * m + 1) (b := 40) h3 (by decide)
  exact Nat.lt_of_le_of_lt (by omega) h4
/-- a bound of a draw -/
def Lim (x : Int) : Prop := 0 < x ∧ x.natAbs.log2 < 9000
theorem lim {x : Int} (h0 : 0 < x) (h : x < 2 ^ 100) : Lim x := ⟨h0, by
  have := PySem.Flt.log2_lt_of (k := 100) (by decide) (show x.natAbs < 2 ^ 100 by omega)
  omega⟩
theorem limB {x : Int} {b : Nat} (h0 : 0 < x) (h : x.natAbs < 2 ^ b) (hb : 0 < b) (h9 : b ≤ 9000) : Lim x := ⟨h0, by
  have := PySem.Flt.log2_lt_of hb h
  omega⟩
theorem cat_emod (i n : Nat) : (i : Int) % (n : Int) = ((i % n : Nat) : Int) := (Int.natCast_emod i n).symm
theorem cat_ediv (i n : Nat) : (i : Int) / (n : Int) = ((i / n : Nat) : Int) := (Int.natCast_ediv i n).symm
end Rn
namespace Rn
open PySem PySem.Spec PyProof.Rows L2
/-! ## the first attempt from a time on -/
def First (Ls : List Lay) (t : Int) (r : Nat) : Prop := r < attN Ls ∧ t ≤ timeN Ls r ∧ (0 < r → timeN Ls (r - 1) < t)
theorem first_nil {t : Int} (h : t ≤ 0) : First [] t 0 := ⟨Nat.zero_lt_one, h, fun z => absurd z (Nat.lt_irrefl 0)⟩
/-- the first run of a layer that does not end before t, each run lasting w -/
def RunAt (L : Lay) (w t : Int) (p : Nat) : Prop := p < L.n ∧ t ≤ (p : Int) * w + L.pt p + w ∧ (0 < p → ((p - 1 : Nat) : Int) * w + L.pt (p - 1) + w < t)
theorem first_snoc {L : Lay} {As : List Lay} {t : Int} {p r : Nat} (h : ∀ A ∈ As, A.ok = true) (hp : RunAt L (durN As) t p) (hr : First As (t - (p : Int) * durN As - L.pt p) r) : First (As ++ [L]) t (p * attN As + r) := by
  obtain ⟨p1, p2, p3⟩ := hp
  obtain ⟨r1, r2, r3⟩ := hr
  have ap := attN_pos h
  have e : timeN (As ++ [L]) (p * attN As + r) = timeN As r + (p : Int) * durN As + L.pt p := by
    rw [Nat.add_comm]
    exact time_snoc p1 h r1
  refine ⟨?_, by rw [e]; omega, fun z => ?_⟩
  · rw [attN_app]
    show p * attN As + r < attN As * (L.n * 1)
    rw [Nat.mul_one, Nat.mul_comm (attN As)]
    have : (p + 1) * attN As ≤ L.n * attN As := Nat.mul_le_mul_right _ p1
    rw [Nat.add_mul, Nat.one_mul] at this
    omega
  · by_cases c : 0 < r
    · have r4 := r3 c
      have e2 : p * attN As + r - 1 = (r - 1) + p * attN As := by omega
      rw [e2, time_snoc p1 h (by omega)]
      omega
    · have r0 : r = 0 := by omega
      subst r0
      have pp : 0 < p := by
        rcases Nat.eq_zero_or_pos p with z2 | z2
        · rw [z2, Nat.zero_mul] at z
          omega
        · exact z2
      have p4 := p3 pp
      have e2 : p * attN As + 0 - 1 = (attN As - 1) + (p - 1) * attN As := by
        rw [Nat.sub_mul, Nat.one_mul]
        have : 1 * attN As ≤ p * attN As := Nat.mul_le_mul_right _ pp
        omega
      rw [e2, time_snoc (by omega) h (by omega)]
      have : durN As = timeN As (attN As - 1) := rfl
      omega
theorem time_mono {Ls : List Lay} (h : ∀ L ∈ Ls, L.fair) : ∀ {i j : Nat}, i ≤ j → j < attN Ls → timeN Ls i ≤ timeN Ls j
  | i, 0, h1, _ => by
    have : i = 0 := by omega
    subst this
    exact Int.le_refl _
  | i, j + 1, h1, h2 => by
    by_cases c : i = j + 1
    · rw [c]
      exact Int.le_refl _
    · have h3 := time_mono h (i := i) (j := j) (by omega) (by omega)
      have h4 := wait_bound (i := j + 1) h (by omega) h2
      rw [time_succ (fun L hL => (h L hL).1) h2]
      omega
theorem dur_nonneg {Ls : List Lay} (h : ∀ L ∈ Ls, L.fair) : 0 ≤ durN Ls := (time_le h _ (by have := attN_pos (Ls := Ls) fun L hL => (h L hL).1; omega)).1
def sumsL (ws : List Int) : List Int := (List.range (ws.length + 1)).map fun i => (ws.take i).sum
theorem sumsL_snoc (ws : List Int) (x : Int) : sumsL (ws ++ [x]) = sumsL ws ++ [ws.sum + x] := by
  unfold sumsL
  rw [List.length_append, List.length_singleton, List.range_succ, List.map_append]
  congr 1
  · refine List.map_congr_left fun i hi => ?_
    have := List.mem_range.mp hi
    rw [List.take_append_of_le_length (by omega)]
  · rw [List.map_singleton, List.take_of_length_le (by rw [List.length_append]; exact Nat.le_refl _), List.sum_append]
    simp
theorem sumsL_len (ws : List Int) : (sumsL ws).length = ws.length + 1 := by
  unfold sumsL
  rw [List.length_map, List.length_range]
theorem sumsL_get (ws : List Int) {i : Nat} (h : i ≤ ws.length) : (sumsL ws)[i]? = some (ws.take i).sum := by
  unfold sumsL
  rw [List.getElem?_map, List.getElem?_range (by omega)]
  rfl
theorem sumsL_last (ws : List Int) : ∃ r, sumsL ws = r ++ [ws.sum] := by
  unfold sumsL
  rw [List.range_succ, List.map_append]
  exact ⟨_, by rw [List.map_singleton, List.take_length]⟩
end Rn

set_option Elab.async false
set_option linter.all false
set_option maxRecDepth 100000
set_option maxHeartbeats 4000000
namespace Rn
open PySem PySem.Spec PyProof.Rows L2
/-! # isinstance of a caught error that has a value -/
section
variable {prog : Program} {w : World} {A : Around} {E : Value → Shared → Prop} {s : Shared} {K : PySem.W.Frag} {x D : Addr} {ox od : Obj}
open PySem.W PySem.Calls in
theorem cls_err {Q : Option Value → Shared → Prop} (C : ExcC K D) (X : K.In s.heap) (I : PySem.W.InstAt s.heap x ox D (some od)) (h : Q (some (.ref D)) { s with toks := s.toks + 1 }) : wpAny (model prog w) A (getAttr? (.ref x) "__class__") Q E s := by
  have hf : findObj K D (some od) "__class__" = some (.bind (.builtin "getset_descriptor.__get__") (.builtin "object.__class__")) := findObj_data (by obtain ⟨cd, hc, _⟩ := any_some C.hd; rw [hc]; rfl) C.ha C.hn C.ht
  obtain ⟨hp, g, d, t, os⟩ := s
  have lk0 := I.type (M := model prog w); have lk1 := looks_findIn (M := model prog w) X C.hg
  have lk2 := looks_findIn (M := model prog w) X C.hk; have lk3 := looks_find (M := model prog w) X I hf
  have isb : Looks (model prog w) hp (isInstance (.ref x) (.type "BaseException")) true := lk0.andThen (looks_subIn X C.hs)
  have nb : (Value.builtin "BaseException.__getattribute__" == Value.builtin "object.__getattribute__") = false := by decide +kernel
  have nb1 : (onTheHeap (Value.ref D) && Value.builtin "BaseException.__getattribute__" == Value.builtin "object.__getattribute__") = false := by rw [nb]; rfl
  unfold getAttr? getAttrBy? getAttrBy
  refine wpAny_bind (wpAny_mkText (wpAny_bind (wpAny_attempt (wpAny_holding (wpAny_bind (lk0.at (wpAny_bind (lk1.at ?_))))))))
  show wpAny _ _ (if (onTheHeap (Value.ref D) && Value.builtin "BaseException.__getattribute__" == Value.builtin "object.__getattribute__") = true then _ else _) _ _ _
  rw [nb1, if_neg Bool.false_ne_true]; unfold getAttrByItsOwn hookBefore
  refine wpAny_bind ?_
  rw [if_pos (show onTheHeap (Value.ref D) = true from rfl)]
  refine lk2.at (wpAny_bind (wpAny_attempt (wpAny_holding ?_)))
  unfold callGetattribute
  rw [show (false && onTheHeap (Value.builtin "BaseException.__getattribute__")) = false from rfl, if_neg Bool.false_ne_true]; unfold boundAndCalled
  rw [PySem.F.excAttr_ValueError.ga.bind (.ref x)]; refine wpAny_bind (wpAny_pure ?_)
  show wpAny _ _ (call (.builtin "BaseException.__getattribute__") [.ref x, .str "__class__" t]) _ _ _
  refine wpAny_call (codeAny_call_builtin PySem.F.excAttr_ValueError.ga.plain PySem.F.entry_bexc_ga ?_)
  refine @check_slot (model prog w) _ _ ⟨hp, g, d, t + 1, os⟩ "BaseException.__getattribute__" "BaseException" "__getattribute__" (.ref x) [.str "__class__" t] [] _ (by decide +kernel) (by decide +kernel) isb (PySem.F.args_bexc_ga (.ref x) (.str "__class__" t)) ?_
  unfold Builtin.«object.__getattribute__»
  refine wpAny_bind (wpAny_of_eq (a := ((Value.ref x : Value), [Value.str "__class__" t])) (by first | rfl | (simp only [slotArgs]; rfl)) ?_)
  refine wpAny_bind (wpAny_pure (wpAny_bind (lk0.at (wpAny_bind (lk3.at ?_)))))
  show wpAny _ _ (holding [Value.builtin "object.__class__"] (call (.builtin "getset_descriptor.__get__") [.builtin "object.__class__", .ref x, .ref D]) >>= ret) _ _ _
  refine wpAny_bind (wpAny_holding (wpAny_call (class_get (s := ⟨hp, g, d, t + 1, os⟩) (ox := ox) (od := some od) X I C.hm ?_)))
  refine wpAny_pure ?_
  show wpAny _ _ (handedOut (.ref D)) _ _ _
  rw [handedOut_of (v := .ref D) rfl]
  first | exact wpAny_pure (wpAny_pure h) | exact wpAny_pure h | exact wpAny_pure (wpAny_bind (wpAny_pure (wpAny_pure h)))
open PySem.W PySem.Calls in
theorem kit_err (C : ExcC K D) : KitX K (.ref x) (.ref D) (fun h => PySem.W.InstAt h x ox D (some od)) := by
  obtain ⟨cd, hcd, _⟩ := any_some C.hd
  have lk : ∃ o, K.lookup D = some o ∧ (∀ c d its n sl, o ≠ ⟨c, d, .seq its n, sl⟩) ∧ ∀ {M : Model} {h : Heap}, K.In h → Looks M h (isType (.ref D)) true := by
    unfold clsIn at hcd
    split at hcd
    · rename_i c' d' cd' sl' ho
      refine ⟨_, ho, (fun c d its n sl z => by cases z), fun {M h} X => ?_⟩
      intro A' Q' E' s' k q
      unfold isType loadHead
      exact wpAny_bind (wpAny_loadPart (k _ _ (X _ _ ho)) (wpAny_pure q))
    · cases hcd
  obtain ⟨o, ho, hne, hty⟩ := lk
  refine ⟨fun _ _ _ I => I.type, fun _ _ X _ => hty X, fun h tp dd its n sl X e => Bool.eq_false_iff.mpr fun q => ?_, fun X I k => cls_err C X I k⟩
  have e2 : D = tp := Value.ref.inj (beq_iff_eq.mp q)
  subst e2
  have z := (X _ _ ho).symm.trans e
  exact hne _ _ _ _ _ (Option.some.inj z)
end
section
variable {X : Cx} {K : PySem.W.Frag} {a : Addr} {oe : Obj} {cls : Value} {d : Option Addr} {pn : List (Addr × Obj)}
/-- the error that is held: its class, its dict -/
def IsErr (K : PySem.W.Frag) (cls : Value) (d : Option Addr) (D : Addr) (H : Hp) : Prop := cls = .ref D ∧ ExcC K D ∧ ∃ dd fs, d = some dd ∧ H dd = some (.xd fs)
theorem err_inst {pins : List (Addr × Obj)} {σ : L2.St} {H : Hp} {s : Shared} {D : Addr} (hz : Zc cls d oe) (hf : ∃ vs, oe.data = .fields vs) (I : Inv (X.suite a ((a, oe) :: pn)) pins σ H s) (h : IsErr X.K cls d D H) :
    ExcC X.K D ∧ ∃ od, PySem.W.InstAt s.heap a oe D (some od) := by
  obtain ⟨ec, C, dd, fs, ed, hd⟩ := h
  obtain ⟨ha, _⟩ := I.pin (a, oe) (List.mem_append_left _ List.mem_cons_self)
  obtain ⟨vs, hv⟩ := hf
  obtain ⟨z1, z2⟩ := hz
  have hx : ObjOk X.prog X.w H s.heap dd (.xd fs) := I.hok dd _ hd
  obtain ⟨mA, hns, _⟩ := hx
  obtain ⟨od, ho, _⟩ := lookIn_ns hns
  exact ⟨C, od, ha, z1.trans ec, by unfold PySem.W.notCls; rw [hv] <;> rfl, by rw [z2, ed]; exact ho⟩
def rIsX (K : PySem.W.Frag) (cls : Value) (d : Option Addr) (a : Addr) : List V → Hp → VK → Prop := fun xs H Q => ∃ (D : Addr) (c : V) (cv : Value) (b : Bool), xs = [.ref a, c] ∧ IsErr K cls d D H ∧ ClsV c cv ∧ PySem.W.kitOne K (.ref D) cv = some b ∧ Q (.bl b) H
theorem call_isX (hz : Zc cls d oe) (hf : ∃ vs, oe.data = .fields vs) : CallR (X.suite a ((a, oe) :: pn)) (.builtin "isinstance") (rIsX X.K cls d a) := by
  intro pins s σ H xs us Q I r h
  obtain ⟨D, c, cv, b, rfl, he, hcv, e, q⟩ := h
  obtain ⟨u1, u2, rfl, r1, r2⟩ := vals2 r
  cases (show u1 = Value.ref a from r1)
  have e2 := hcv.eq r2
  subst e2
  obtain ⟨C, od, J⟩ := err_inst hz hf I he
  exact PySem.W.kia_one (kit_err C) I.kIn J e (fun z => nomatch z) fun tk => ⟨.bl b, H, I.kept (t' := tk) fun _ _ z => z, rfl, q⟩
def rIsXT (K : PySem.W.Frag) (cls : Value) (d : Option Addr) (a : Addr) : List V → Hp → VK → Prop := fun xs H Q => ∃ (D tp : Addr) (cs : List V) (ws : List Value) (b : Bool), xs = [.ref a, .ref tp] ∧ IsErr K cls d D H ∧ H tp = some (.tup cs) ∧ Paired ClsV cs ws ∧ PySem.W.kitAny K (.ref D) ws = some b ∧ Q (.bl b) H
theorem call_isXT (hz : Zc cls d oe) (hf : ∃ vs, oe.data = .fields vs) : CallR (X.suite a ((a, oe) :: pn)) (.builtin "isinstance") (rIsXT X.K cls d a) := by
  intro pins s σ H xs us Q I r h
  obtain ⟨D, tp, cs, ws, b, rfl, he, hT, k, e, q⟩ := h
  obtain ⟨u1, u2, rfl, r1, r2⟩ := vals2 r
  cases (show u1 = Value.ref a from r1)
  cases (show u2 = Value.ref tp from r2)
  obtain ⟨C, od, J⟩ := err_inst hz hf I he
  obtain ⟨_, its, rv, o, h1, h2, n, h3⟩ := (show ObjOk X.prog X.w H s.heap tp (.tup cs) from I.hok tp _ hT)
  have e3 := ClsV.all k rv
  subst e3
  obtain ⟨oc, od', dt, sl⟩ := o
  simp only at h2 h3
  subst h2 h3
  exact PySem.W.kia_tup (kit_err C) I.kIn J h1 e (fun z => nomatch z) fun tk => ⟨.bl b, H, I.kept (t' := tk) fun _ _ z => z, rfl, q⟩
theorem kit_ve {D : Addr} (h : PySem.W.subIn K (.ref D) (.type "ValueError") = some true) : PySem.W.kitOne K (.ref D) (.type "ValueError") = some true := by
  unfold PySem.W.kitOne
  rw [if_neg (by intro z; cases beq_iff_eq.mp z)]
  show (if PySem.W.kitMeta "ValueError" = true then PySem.W.subIn K (.ref D) (.type "ValueError") else none) = _
  rw [if_pos (by decide +kernel), h]
theorem kit_self {D : Addr} : PySem.W.kitOne K (.ref D) (.ref D) = some true := by
  unfold PySem.W.kitOne
  rw [if_pos (by rw [beq_iff_eq])]
end
theorem sqt_same {K : PySem.W.Frag} {H H' : Hp} {a : Addr} {xs : List V} (e : Same H H') (h : SqT K H a xs) : SqT K H' a xs := by
  rcases h with (h | ⟨o, h⟩) | h
  · exact .inl (.inl (e _ _ h))
  · exact .inl (.inr ⟨o, e _ _ h⟩)
  · exact .inr h
mutual
theorem dp_same {K : PySem.W.Frag} {H H' : Hp} (e : Same H H') : ∀ (d : PyData) (v : V), Dp K H v d → Dp K H' v d
  | .none, _, h => by cases h; exact .non
  | .bool b, _, h => by cases h; exact .bl _
  | .int i, _, h => by cases h; exact .int _
  | .str x, _, h => by cases h; exact .str _
  | .list ds, _, h => by
    cases h with
    | lst s r => exact .lst (e.seq s) (dp_sames e ds _ r)
  | .tuple ds, _, h => by
    cases h with
    | tup s r => exact .tup (sqt_same e s) (dp_sames e ds _ r)
  | .dict _, _, h => by cases h
theorem dp_sames {K : PySem.W.Frag} {H H' : Hp} (e : Same H H') : ∀ (ds : List PyData) (vs : List V), DpAll K H vs ds → DpAll K H' vs ds
  | [], _, h => by cases h; exact .nil
  | d :: ds, _, h => by
    cases h with
    | cons a b => exact .cons (dp_same e d _ a) (dp_sames e ds _ b)
end
end Rn

set_option Elab.async false
set_option linter.all false
set_option maxRecDepth 100000
set_option maxHeartbeats 4000000
namespace Rn
open PySem PySem.Spec PyProof.Rows L2
/-! ## slices between numbers, and by steps -/
theorem cut_mid (xs : List V) (a b : Nat) : cutV xs (some (a : Int)) (some (b : Int)) = (xs.drop a).take (b - a) := by
  unfold cutV
  rw [show HT.sIx xs.length 0 (some (a : Int)) = min a xs.length from HT.sIx_nat xs.length _ a, show HT.sIx xs.length xs.length (some (b : Int)) = min b xs.length from HT.sIx_nat xs.length _ b]
  by_cases ha : a ≤ xs.length
  · rw [Nat.min_eq_left ha]
    by_cases hb : b ≤ xs.length
    · rw [Nat.min_eq_left hb]
    · rw [Nat.min_eq_right (by omega), List.take_of_length_le (by rw [List.length_drop]; omega), List.take_of_length_le (by rw [List.length_drop]; omega)]
  · rw [show min a xs.length = xs.length by omega, List.drop_eq_nil_of_le (Nat.le_refl _), List.drop_eq_nil_of_le (show xs.length ≤ a by omega), List.take_nil, List.take_nil]
/-- xs[lo], xs[lo + c], .. -/
def pks {α : Type} (xs : List α) (lo c : Nat) : List α := ((List.range ((xs.length - lo + c - 1) / c)).map fun k => lo + c * k).filterMap fun i => xs[i]?
theorem pks_map {α β : Type} (f : α → β) (xs : List α) (lo c : Nat) : pks (xs.map f) lo c = (pks xs lo c).map f := by
  unfold pks
  rw [List.length_map, List.map_filterMap]
  congr 1
  funext i
  rw [List.getElem?_map]
theorem vals_at {xs : List V} {us : List Value} (h : Vals xs us) : ∀ is : List Nat, Vals (is.filterMap fun i => xs[i]?) (is.filterMap fun i => us[i]?)
  | [] => .nil
  | i :: is => by
    have ih := vals_at h is
    by_cases hi : i < xs.length
    · obtain ⟨u, hu, r⟩ := Vals.get h (List.getElem?_eq_getElem hi)
      rw [List.filterMap_cons_some (List.getElem?_eq_getElem hi), List.filterMap_cons_some hu]
      exact .cons r ih
    · rw [List.filterMap_cons_none (List.getElem?_eq_none (by omega)), List.filterMap_cons_none (List.getElem?_eq_none (by rw [← h.length]; omega))]
      exact ih
theorem pick_k (its : Array Value) (lo c : Nat) (hl : lo ≤ its.size) (hc : 1 ≤ c) : (slicePick its (some (lo : Int)) none (some (c : Int))).toList = pks its.toList lo c := by
  have hb : sliceBounds (some (lo : Int)) none (some (c : Int)) its.size = ((lo : Int), (its.size : Int), (c : Int)) := by
    unfold sliceBounds
    simp only [Option.getD_some]
    rw [if_pos (show (c : Int) > 0 by omega), if_neg (show ¬ (lo : Int) < 0 by omega)]
    refine Prod.ext ?_ (Prod.ext ?_ rfl)
    · show max 0 (min (lo : Int) its.size) = (lo : Int)
      omega
    · show (if (c : Int) > 0 then (its.size : Int) else _) = _
      rw [if_pos (show (c : Int) > 0 by omega)]
  unfold slicePick pks
  rw [hb]
  have hr : sliceRange (lo : Int) (its.size : Int) (c : Int) = (List.range ((its.toList.length - lo + c - 1) / c)).map fun k => lo + c * k := by
    unfold sliceRange
    have hn : (if (c : Int) > 0 then (if (lo : Int) < (its.size : Int) then ((its.size : Int) - lo + c - 1) / c else 0) else (if (lo : Int) > (its.size : Int) then ((lo : Int) - its.size - c - 1) / (-c) else 0)).toNat = (its.toList.length - lo + c - 1) / c := by
      rw [if_pos (show (c : Int) > 0 by omega), Array.length_toList]
      split
      · rw [show (its.size : Int) - lo + c - 1 = ((its.size - lo + c - 1 : Nat) : Int) by omega]
        rfl
      · rw [show its.size - lo + c - 1 = c - 1 by omega, Nat.div_eq_of_lt (by omega)]
        rfl
    simp only []
    rw [hn]
    refine List.map_congr_left fun k _ => ?_
    have : (c : Int) * (k : Int) = ((c * k : Nat) : Int) := by rw [Int.natCast_mul]
    rw [this]
    omega
  show (((sliceRange (lo : Int) (its.size : Int) (c : Int)).filterMap (its[·]?)).toArray).toList = _
  rw [hr]
  simp only [Array.getElem?_toList]
def tSkip (K : PySem.W.Frag) (te tl ts : TE) : TE := fun σ H Q => te σ H fun v H1 => tPart tl σ H1 fun l H2 => tPart ts σ H2 fun o H3 => ∃ lo c : Nat, l = some (lo : Int) ∧ o = some (c : Int) ∧ 1 ≤ c ∧
  ∃ (a : Addr) (xs : List V), v = .ref a ∧ SqL K H3 a xs ∧ lo ≤ xs.length ∧ xs.length ≤ 100000 ∧ ∀ p, H3 p = none → Q (.ref p) (upd H3 p (.lst (pks xs lo c)))
theorem pks_len {α : Type} (xs : List α) (lo c : Nat) (hc : 1 ≤ c) : (pks xs lo c).length ≤ xs.length := by
  unfold pks
  refine Nat.le_trans (List.length_filterMap_le _ _) ?_
  rw [List.length_map, List.length_range]
  by_cases h : xs.length - lo = 0
  · rw [h, Nat.div_eq_of_lt (by omega)]
    exact Nat.zero_le _
  · have : (xs.length - lo + c - 1) / c ≤ xs.length - lo := by
      rw [Nat.div_le_iff_le_mul (by omega)]
      have h1 : (xs.length - lo - 1) * 1 ≤ (xs.length - lo - 1) * c := Nat.mul_le_mul_left _ hc
      have h2 : (xs.length - lo) * c = (xs.length - lo - 1) * c + c := by
        rw [← Nat.succ_mul]
        congr 1
        omega
      omega
    omega
theorem pe_skip {X : Cx} {e el es : Expr} {te tl ts : TE} {p3 pos : Pos} (he : PE X e te) (hl : PE X el tl) (hs : PE X es ts) : PE X (.Subscript e (.Slice (some el) none (some es) p3) pos) (tSkip X.K te tl ts) := by
  constructor
  intro pins s σ H Q I h
  refine Subscript_ (thn (he.run pins s σ H _ I h) fun v s1 z1 => ?_)
  obtain ⟨xv, H1, I1, r1, q1⟩ := z1
  refine wpAny_Slice (thn ((po_some hl).run pins s1 σ H1 _ I1 q1) fun vl s2 z2 => ?_)
  obtain ⟨l, G2, I2, pl, q2⟩ := z2
  refine thn (po_none.run pins s2 σ G2 (fun o G => o = none ∧ G = G2) I2 ⟨rfl, rfl⟩) fun vu s3 z3 => ?_
  obtain ⟨u, G3, I3, pu, rfl, rfl⟩ := z3
  refine thn ((po_some hs).run pins s3 σ G3 _ I3 q2) fun vs s4 z4 => ?_
  obtain ⟨o, G4, I4, pst, lo, c, rfl, rfl, hc, a, xs, rfl, hx, hlo, hsz, q⟩ := z4
  cases r1
  have I5 : Inv X pins σ G4 { s4 with heap := s4.heap.push { cls := .type "slice", data := .fields #[vl, vu, vs] } } := I4.kept (t' := s4.toks) fun b ob z => Heap.get?_push_of_some _ z
  obtain ⟨its, rel, plain, room⟩ := I5.list hx
  have many : its.length = xs.length := rel.length.symm
  show wpAny (model X.prog X.w) X.A (subscriptTail e (.Slice (some el) none (some es) p3) (.ref a) (.ref s4.heap.objs.size)) (EP X pins σ Q) X.xe { s4 with heap := s4.heap.push { cls := .type "slice", data := .fields #[vl, vu, vs] } }
  refine tail_any (ops := [.ref a, .ref s4.heap.objs.size]) plain.isList.typeIs (PySem.slot_list_getitem.lookup) ?_ (by with_unfolding_all rfl)
  refine wpAny_getItem_list_slice plain.isList (Heap.IsSliceOf.new _ vl vu vs) pl pu pst (by intro z; injection z with z; omega) ?_ (by rw [List.size_toArray, many]; exact size_le hsz)
  have hp := pick_k its.toArray lo c (by rw [List.size_toArray, many]; exact hlo) hc
  have hv : Vals (pks xs lo c) (slicePick its.toArray (some (lo : Int)) none (some (c : Int))).toList := by
    rw [hp]
    unfold pks
    rw [List.toList_toArray, ← many]
    exact vals_at rel _
  generalize slicePick its.toArray (some (lo : Int)) none (some (c : Int)) = arr at *
  refine ⟨.ref _, _, I5.laid (t' := s4.toks) (o := .lst (pks xs lo c)) (fun b ob z => Heap.get?_push_of_some _ z) (Nat.le_refl _) ?_, rfl, q _ (I5.hok.fresh (Nat.le_refl _))⟩
  exact ⟨Nat.le_trans (pks_len xs lo c hc) (size_le hsz), arr.toList, 0, hv, by rw [Heap.get?_push_size _ rfl]⟩
/-! ## range(lo, hi, c), c at least 1 -/
theorem RgC.up {i j c : Int} (hc : 1 ≤ c) (hc' : c < 1000000) (hi : 0 ≤ i) (hi' : i < 1000000) (hj : 0 ≤ j) (hj' : j < 1000000) : RgC i j c (if i < j then ((j - i - 1) / c + 1).toNat else 0) := by
  have hs : Builtin.Range.rangeSize i j c = ((if i < j then ((j - i - 1) / c + 1).toNat else 0 : Nat) : Int) := by
    unfold Builtin.Range.rangeSize
    rw [if_pos (show c > 0 by omega)]
    split
    · have := Int.ediv_nonneg (show 0 ≤ j - i - 1 by omega) (show 0 ≤ c by omega)
      omega
    · rfl
  have hb : Builtin.Range.rangeSize i j c ≤ 1000000 := by
    rw [hs]
    split
    · have h0 := Int.ediv_nonneg (show 0 ≤ j - i - 1 by omega) (show 0 ≤ c by omega)
      have h1 := Int.ediv_le_self c (show (0 : Int) ≤ j - i - 1 by omega)
      omega
    · decide
  have hb0 : 0 ≤ Builtin.Range.rangeSize i j c := by rw [hs]; omega
  refine ⟨by omega, by omega, ?_, hs⟩
  unfold Builtin.Range.small
  generalize Builtin.Range.rangeSize i j c = z at *
  simp only [Builtin.Range.rangeFitsLong, Bool.and_eq_true, Bool.or_eq_true, decide_eq_true_eq, beq_iff_eq, if_pos (show c > 0 by omega)]
  refine ⟨⟨⟨⟨?_, ?_⟩, ?_⟩, ?_⟩, .inr ?_⟩ <;> omega
theorem RgC.blocks {n q : Nat} (hn : 1 ≤ n) (hq : 1 ≤ q) (hb : n * q < 1000000) : RgC (n : Int) ((n * q : Nat) : Int) (n : Int) (q - 1) := by
  have h1 : n * 1 ≤ n * q := Nat.mul_le_mul_left _ hq
  have h := RgC.up (i := (n : Int)) (j := ((n * q : Nat) : Int)) (c := (n : Int)) (by omega) (by omega) (by omega) (by omega) (by omega) (by omega)
  have e : (if (n : Int) < ((n * q : Nat) : Int) then (((((n * q : Nat) : Int) - n - 1) / n + 1).toNat) else 0) = q - 1 := by
    by_cases h2 : q = 1
    · rw [h2, if_neg (by omega)]
    · have h3 : n * q = n * (q - 2) + n + n := by
        rw [show q = q - 2 + 1 + 1 by omega, Nat.mul_succ, Nat.mul_succ]
        rfl
      rw [if_pos (by omega)]
      have h4 : (((n * q : Nat) : Int) - n - 1) / n = ((q - 2 : Nat) : Int) := by
        rw [show ((n * q : Nat) : Int) - n - 1 = ((n : Int) - 1) + n * ((q - 2 : Nat) : Int) by rw [h3]; omega, Int.add_mul_ediv_left _ _ (by omega), Int.ediv_eq_zero_of_lt (by omega) (by omega), Int.zero_add]
      rw [h4]
      omega
  rw [e] at h
  exact h
/-! ## inner numbers -/
def blk (ws : List Int) (n c : Nat) : List Int := (ws.drop (c * n)).take (n - 1)
def repB (ws : List Int) (n : Nat) : Bool := (List.range ((ws.length + 1) / n)).all fun c => decide (blk ws n c = blk ws n 0)
def innB (ws : List Int) (n : Int) : Bool := decide (1 ≤ n) && decide (((ws.length : Int) + 1) % n = 0) && repB ws n.toNat
def innL (ws : List Int) : List Int := ((List.range (ws.length + 1)).map fun i => ((i : Nat) : Int) + 1).filter (innB ws)
theorem repB_of {ws : List Int} {n : Nat} (h : ∀ c, c < (ws.length + 1) / n → blk ws n c = blk ws n 0) : repB ws n = true := by
  unfold repB
  rw [List.all_eq_true]
  intro c hc
  exact decide_eq_true (h c (List.mem_range.mp hc))
theorem repB_not {ws : List Int} {n c : Nat} (hc : c < (ws.length + 1) / n) (h : blk ws n c ≠ blk ws n 0) : repB ws n = false := by
  unfold repB
  rw [List.all_eq_false]
  exact ⟨c, List.mem_range.mpr hc, by rw [decide_eq_false h]; decide⟩
theorem blk_map (ws : List Int) (n c : Nat) : ((ws.map V.int).drop (c * n)).take (n - 1) = (blk ws n c).map V.int := by
  unfold blk
  rw [List.map_take, List.map_drop]
/-- the definition by places -/
def Per (ws : List Int) (n : Nat) : Prop := 1 ≤ n ∧ n ∣ ws.length + 1 ∧ ∀ c r, r + 1 < n → c * n + r < ws.length → ws[c * n + r]? = ws[r]?
theorem blk_get {ws : List Int} {n c r : Nat} (h : r + 1 < n) : (blk ws n c)[r]? = ws[c * n + r]? := by
  unfold blk
  rw [List.getElem?_take_of_lt (by omega), List.getElem?_drop]
theorem per_iff {ws : List Int} {n : Nat} : innB ws (n : Int) = true ↔ Per ws n := by
  unfold innB Per
  rw [Bool.and_eq_true, Bool.and_eq_true, decide_eq_true_eq, decide_eq_true_eq, Int.toNat_natCast]
  have hd : ((ws.length : Int) + 1) % (n : Int) = 0 ↔ n ∣ ws.length + 1 := by
    rw [← Int.natCast_dvd_natCast, ← Int.dvd_iff_emod_eq_zero]
    rfl
  rw [hd]
  constructor
  · rintro ⟨⟨h1, h2⟩, h3⟩
    refine ⟨by omega, h2, fun c r hr hl => ?_⟩
    unfold repB at h3
    rw [List.all_eq_true] at h3
    have hc : c < (ws.length + 1) / n := by
      rw [Nat.lt_div_iff_mul_lt' h2]
      rw [Nat.mul_comm]
      omega
    have := of_decide_eq_true (h3 c (List.mem_range.mpr hc))
    rw [← blk_get hr, this, blk_get hr, Nat.zero_mul, Nat.zero_add]
  · rintro ⟨h1, h2, h3⟩
    refine ⟨⟨by omega, h2⟩, repB_of fun c hc => ?_⟩
    obtain ⟨q, hq⟩ := h2
    have hc' : c < q := by
      rw [hq, Nat.mul_div_cancel_left _ (by omega)] at hc
      exact hc
    have hb : c * n + n ≤ ws.length + 1 := by
      rw [hq, Nat.mul_comm n q, ← Nat.succ_mul]
      exact Nat.mul_le_mul_right _ hc'
    apply List.ext_getElem?
    intro r
    by_cases hr : r + 1 < n
    · rw [blk_get hr, blk_get hr, Nat.zero_mul, Nat.zero_add]
      exact h3 c r hr (by omega)
    · rw [List.getElem?_eq_none (by unfold blk; rw [List.length_take]; omega), List.getElem?_eq_none (by unfold blk; rw [List.length_take]; omega)]
/-! ## how many different ints -/
def fM (ns : List Int) : List Int := firstMet (fun i => ns.getD i 0) ns.length
theorem fM_len (ns : List Int) : (fM ns).length ≤ ns.length := firstMet_length_le _ _
theorem fM_same (f : Nat → Int) (w : Int) : ∀ n, (∀ i, i < n + 1 → f i = w) → firstMet f (n + 1) = [w]
  | 0, h => by
    rw [firstMet_succ, show f 0 = w from h 0 (by omega)]
    rfl
  | n + 1, h => by
    rw [firstMet_succ, fM_same f w n fun i hi => h i (by omega), h (n + 1) (by omega)]
    unfold step_dedup
    simp
theorem fM_one {ns : List Int} {w : Int} (h0 : ns ≠ []) (h : ∀ x ∈ ns, x = w) : fM ns = [w] := by
  unfold fM
  obtain ⟨n, hn⟩ : ∃ n, ns.length = n + 1 := ⟨ns.length - 1, by have := List.length_pos_iff.mpr h0; omega⟩
  rw [hn]
  refine fM_same _ w n fun i hi => ?_
  have hi' : i < ns.length := by omega
  rw [List.getD_eq_getElem?_getD, List.getElem?_eq_getElem hi']
  exact h _ (List.getElem_mem hi')
theorem fM_two {ns : List Int} {x y : Int} (hx : x ∈ ns) (hy : y ∈ ns) (h : x ≠ y) : 1 < (fM ns).length := by
  have mem : ∀ z, z ∈ ns → z ∈ fM ns := fun z hz => by
    have h1 : (fM ns).any (· == z) = true := by
      unfold fM
      rw [firstMet_any, List.any_eq_true]
      obtain ⟨i, hi, e⟩ := List.getElem_of_mem hz
      refine ⟨z, List.mem_map.mpr ⟨i, List.mem_range.mpr hi, ?_⟩, by simp⟩
      show ns.getD i 0 = z
      rw [List.getD_eq_getElem?_getD, List.getElem?_eq_getElem hi]
      exact e
    obtain ⟨u, hu, e⟩ := List.any_eq_true.mp h1
    rw [← eq_of_beq e]
    exact hu
  have m1 := mem x hx
  have m2 := mem y hy
  match e : fM ns with
  | [] => rw [e] at m1; cases m1
  | [u] =>
    rw [e] at m1 m2
    exact absurd ((List.mem_singleton.mp m1).trans (List.mem_singleton.mp m2).symm) h
  | u :: v :: r => simp only [List.length_cons]; omega
def tLenSetA (K : PySem.W.Frag) (ta : TE) : TE := fun σ H Q => ta σ H fun x H1 => ∃ (l : Addr) (ns : List Int), x = .ref l ∧ SqL K H1 l (ns.map V.int) ∧ ns.length ≤ 4000 ∧ Q (.int ((fM ns).length : Nat)) H1
theorem pe_lenSetA {X : Cx} {K : PySem.W.Frag} (hK : X.K = K) {a : Expr} {ta : TE} {p p2 q pos : Pos} (hg : Gl X "len") (hm : X.mg "len" = none) (hg2 : Gl X "set") (hm2 : X.mg "set" = none) (ha : PE X a ta) (hc : X.calm = true := by rfl)
    (na : starEach [a] X.env = (false, eval a X.env) :: starEach [] X.env := by rfl) : PE X (.Call (.Name "len" p) [.Call (.Name "set" p2) [a] [] q] [] pos) (tLenSetA K ta) := by
  subst hK
  constructor
  intro pins s σ H Q I h
  refine Call_ (ld_blt I hg hm boot_len (PyProof.Rows.callWith_builtin1 (PyProof.Rows.args_cons (Call_ (ld_blt I hg2 hm2 boot_set (PyProof.Rows.callWith_type1 (PyProof.Rows.args_cons (thn (ha.run pins s σ H _ I h) fun v s1 z => PyProof.Rows.args_nil ?_) na) na rfl))) rfl) rfl rfl))
  obtain ⟨x, H1, I1, r1, l, ns, rfl, hq, hl, q1⟩ := z
  cases r1
  obtain ⟨its, rel, pl, room⟩ := I1.list hq
  have many : its.toArray.size = ns.length := by rw [List.size_toArray, ← rel.length, List.length_map]
  refine call_set_list (I1.ok.hd hc) pl.isList (by rw [List.toList_toArray]; exact RZ.intsAre_vals rel) (by rw [many]; unfold scanBound; omega) fun h' tk hS hk => PyProof.Rows.args_nil ?_
  rw [many] at hS
  obtain ⟨o, es, ep, t, ho, hex, hd, _, _, _, hf, hn⟩ := hS
  have I2 : Inv X pins σ H1 { s1 with heap := h', toks := tk } := I1.kept fun b o e => hk b o (Heap.lt_size e) e
  have le := fM_len ns
  unfold fM at le
  exact call_len_set ho hex hd hf (by rw [hn]; omega) ⟨.int ((fM ns).length : Nat), H1, I2.tok _, ⟨_, by rw [hn]; rfl⟩, q1⟩
end Rn

set_option Elab.async false
set_option linter.all false
set_option maxRecDepth 100000
set_option maxHeartbeats 4000000
namespace Rn
open PySem PySem.Spec PyProof.Rows L2
/-! ## periods: by numbers of waits -/
/-- wait number j (from 1) -/
def wt (ws : List Int) (j : Nat) : Option Int := ws[j - 1]?
def PerC (ws : List Int) (n : Nat) : Prop := 1 ≤ n ∧ n ∣ ws.length + 1 ∧ ∀ i j, 1 ≤ i → i < ws.length + 1 → 1 ≤ j → j < ws.length + 1 → i % n = j % n → i % n ≠ 0 → wt ws i = wt ws j
theorem per_c {ws : List Int} {n : Nat} : Per ws n ↔ PerC ws n := by
  constructor
  · rintro ⟨h1, h2, h3⟩
    have key : ∀ i, 1 ≤ i → i < ws.length + 1 → i % n ≠ 0 → wt ws i = ws[i % n - 1]? := fun i i1 i2 i3 => by
      have e := Nat.div_add_mod i n
      have hm := Nat.mod_lt i (show n > 0 by omega)
      have := h3 (i / n) (i % n - 1) (by omega) (by rw [Nat.mul_comm]; omega)
      rw [← this]
      unfold wt
      congr 1
      rw [Nat.mul_comm]
      omega
    exact ⟨h1, h2, fun i j i1 i2 j1 j2 e z => by rw [key i i1 i2 z, key j j1 j2 (by rw [← e]; exact z), e]⟩
  · rintro ⟨h1, h2, h3⟩
    refine ⟨h1, h2, fun c r hr hl => ?_⟩
    have m1 : (c * n + r + 1) % n = r + 1 := by
      rw [Nat.add_assoc, Nat.mul_comm, Nat.mul_add_mod, Nat.mod_eq_of_lt (by omega)]
    have m2 : (r + 1) % n = r + 1 := Nat.mod_eq_of_lt hr
    have := h3 (c * n + r + 1) (r + 1) (by omega) (by omega) (by omega) (by
      have : r ≤ c * n + r := Nat.le_add_left _ _
      omega) (by rw [m1, m2]) (by rw [m1]; omega)
    exact this
/-- what stays under steps of a and of b stays under steps of their greatest common divisor -/
theorem gcd_step {α : Type} {g : Nat} {W : Nat → α} {C : Nat → Prop} (hC : ∀ x d, g ∣ d → C x → C (x + d)) (a b : Nat) : g ∣ a → g ∣ b → (∀ x, C x → W (x + a) = W x) → (∀ x, C x → W (x + b) = W x) → ∀ x, C x → W (x + Nat.gcd a b) = W x := by
  induction a, b using Nat.gcd.induction with
  | H0 b => intro _ _ _ hb x hx; rw [Nat.gcd_zero_left]; exact hb x hx
  | H1 a b ha ih =>
    intro ga gb h1 h2 x hx
    rw [Nat.gcd_rec]
    have gm : g ∣ b % a := (Nat.dvd_mod_iff ga).mpr gb
    have many : ∀ q y, C y → W (y + a * q) = W y := by
      intro q
      induction q with
      | zero => intro y _; rfl
      | succ q ih => intro y hy; rw [Nat.mul_succ, ← Nat.add_assoc, h1 _ (hC y _ (Nat.dvd_mul_right_of_dvd ga q) hy), ih y hy]
    refine ih gm ga (fun y hy => ?_) h1 x hx
    rw [← many (b / a) (y + b % a) (hC y _ gm hy), Nat.add_assoc, Nat.mod_add_div]
    exact h2 y hy
/-- .. and any number of steps -/
theorem steps {α : Type} {g : Nat} {W : Nat → α} {C : Nat → Prop} (hC : ∀ x d, g ∣ d → C x → C (x + d)) {d : Nat} (gd : g ∣ d) (h : ∀ x, C x → W (x + d) = W x) : ∀ k x, C x → W (x + d * k) = W x
  | 0, x, _ => rfl
  | k + 1, x, hx => by rw [Nat.mul_succ, ← Nat.add_assoc, h _ (hC x _ (Nat.dvd_mul_right_of_dvd gd k) hx), steps hC gd h k x hx]
theorem not_dvd_add {g : Nat} (x d : Nat) (h : g ∣ d) (hx : ¬ g ∣ x) : ¬ g ∣ x + d := fun z => hx ((Nat.dvd_add_iff_left h).mpr z)
/-- some number of steps of a leads from x to 1, by b -/
theorem lead {a b : Nat} (hb : 1 ≤ b) (h : Nat.gcd a b = 1) (x : Nat) : ∃ m, (x + m * a) % b = 1 % b := by
  let R : Nat → Prop := fun x => ∃ m, (x + m * a) % b = 1 % b
  have hA : ∀ x, True → R (x + a) = R x := fun x _ => propext ⟨fun ⟨m, e⟩ => ⟨m + 1, by rw [← e]; congr 1; rw [Nat.succ_mul]; omega⟩, fun ⟨m, e⟩ => ⟨m + (b - 1), by
    rw [← e]
    have : x + a + (m + (b - 1)) * a = x + m * a + b * a := by
      have e1 : b * a = (b - 1) * a + a := by rw [← Nat.succ_mul]; congr 1; omega
      rw [e1, Nat.add_mul]
      omega
    rw [this, Nat.add_mul_mod_self_left]⟩⟩
  have hB : ∀ x, True → R (x + b) = R x := fun x _ => propext ⟨fun ⟨m, e⟩ => ⟨m, by rw [← e, show x + b + m * a = x + m * a + b by omega, Nat.add_mod_right]⟩, fun ⟨m, e⟩ => ⟨m, by rw [← e, show x + b + m * a = x + m * a + b by omega, Nat.add_mod_right]⟩⟩
  have h1 := gcd_step (g := 1) (W := R) (C := fun _ => True) (fun _ _ _ _ => trivial) a b (Nat.one_dvd _) (Nat.one_dvd _) hA hB
  rw [h] at h1
  have h2 := steps (g := 1) (W := R) (C := fun _ => True) (fun _ _ _ _ => trivial) (Nat.one_dvd 1) h1
  have h3 : R 1 := ⟨0, by rw [Nat.zero_mul, Nat.add_zero]⟩
  have h4 : R 0 := by
    have := h1 0 trivial
    rw [← this]
    exact h3
  have := h2 x 0 trivial
  rw [Nat.zero_add, Nat.one_mul] at this
  show R x
  rw [this]
  exact h4
theorem wt_ring {ws : List Int} {n : Nat} (h : PerC ws n) : ∀ x, ¬ n ∣ x → wt ws ((x + n) % (ws.length + 1)) = wt ws (x % (ws.length + 1)) := fun x hx => by
  obtain ⟨h1, h2, h3⟩ := h
  have d1 : (x + n) % (ws.length + 1) % n = x % n := by rw [Nat.mod_mod_of_dvd _ h2, Nat.add_mod_right]
  have d2 : x % (ws.length + 1) % n = x % n := Nat.mod_mod_of_dvd _ h2
  have z : x % n ≠ 0 := fun e => hx (Nat.dvd_of_mod_eq_zero e)
  have nz : ∀ y, y % n ≠ 0 → 1 ≤ y := fun y e => by
    cases y with
    | zero => rw [Nat.zero_mod] at e; exact absurd rfl e
    | succ y => omega
  exact h3 _ _ (nz _ (by rw [d1]; exact z)) (Nat.mod_lt _ (by omega)) (nz _ (by rw [d2]; exact z)) (Nat.mod_lt _ (by omega)) (by rw [d1, d2]) (by rw [d1]; exact z)
theorem per_gcd {ws : List Int} {a b : Nat} (ha : PerC ws a) (hb : PerC ws b) : PerC ws (Nat.gcd a b) := by
  have g1 : 1 ≤ Nat.gcd a b := Nat.gcd_pos_of_pos_left _ ha.1
  have ga := Nat.gcd_dvd_left a b
  have gb := Nat.gcd_dvd_right a b
  have step := gcd_step (g := Nat.gcd a b) (W := fun x => wt ws (x % (ws.length + 1))) (C := fun x => ¬ Nat.gcd a b ∣ x) (fun x d hd hx => not_dvd_add x d hd hx) a b ga gb
    (fun x hx => wt_ring ha x fun z => hx (Nat.dvd_trans ga z)) (fun x hx => wt_ring hb x fun z => hx (Nat.dvd_trans gb z))
  generalize Nat.gcd a b = g at *
  have many := steps (g := g) (W := fun x => wt ws (x % (ws.length + 1))) (C := fun x => ¬ g ∣ x) (fun x d hd hx => not_dvd_add x d hd hx) (Nat.dvd_refl g) step
  have base : ∀ i, 1 ≤ i → i < ws.length + 1 → i % g ≠ 0 → wt ws i = wt ws ((i % g) % (ws.length + 1)) := fun i i1 i2 i3 => by
    have m0 := Nat.mod_lt i (show g > 0 by omega)
    have := many (i / g) (i % g) (fun z => i3 (by
      have := Nat.eq_zero_of_dvd_of_lt z m0
      exact this))
    rw [Nat.mod_add_div, Nat.mod_eq_of_lt i2] at this
    exact this
  exact ⟨g1, Nat.dvd_trans ga ha.2.1, fun i j i1 i2 j1 j2 e z => by rw [base i i1 i2 z, base j j1 j2 (by rw [← e]; exact z), e]⟩
theorem per_lcm {ws : List Int} {a b : Nat} (ha : PerC ws a) (hb : PerC ws b) : PerC ws (Nat.lcm a b) := by
  have la := Nat.dvd_lcm_left a b
  have lb := Nat.dvd_lcm_right a b
  refine ⟨Nat.lcm_pos ha.1 hb.1, Nat.lcm_dvd ha.2.1 hb.2.1, fun i j i1 i2 j1 j2 e z => ?_⟩
  have ea : i % a = j % a := by rw [← Nat.mod_mod_of_dvd i la, e, Nat.mod_mod_of_dvd j la]
  have eb : i % b = j % b := by rw [← Nat.mod_mod_of_dvd i lb, e, Nat.mod_mod_of_dvd j lb]
  by_cases za : i % a = 0
  · by_cases zb : i % b = 0
    · exact absurd (Nat.mod_eq_zero_of_dvd (Nat.lcm_dvd (Nat.dvd_of_mod_eq_zero za) (Nat.dvd_of_mod_eq_zero zb))) z
    · exact hb.2.2 i j i1 i2 j1 j2 eb zb
  · exact ha.2.2 i j i1 i2 j1 j2 ea za
/-- between the greatest common divisor and the least common multiple all waits are equal -/
theorem per_between {ws : List Int} {g p q : Nat} (hp : PerC ws (g * p)) (hq : PerC ws (g * q)) (hc : Nat.gcd p q = 1) (hp1 : p ≠ 1) (hq1 : q ≠ 1) :
    ∀ k, 1 ≤ k → k < p * q → wt ws (g * k) = wt ws g := by
  have g0 : 1 ≤ g := by
    cases g with
    | zero => have := hp.1; rw [Nat.zero_mul] at this; omega
    | succ g => omega
  have p0 : 2 ≤ p := by
    have : p ≠ 0 := fun z => by have := hp.1; rw [z, Nat.mul_zero] at this; omega
    omega
  have q0 : 2 ≤ q := by
    have : q ≠ 0 := fun z => by have := hq.1; rw [z, Nat.mul_zero] at this; omega
    omega
  have bound : g * (p * q) ≤ ws.length + 1 := by
    have h1 : Nat.lcm (g * p) (g * q) ∣ ws.length + 1 := Nat.lcm_dvd hp.2.1 hq.2.1
    have h2 : Nat.lcm (g * p) (g * q) = g * (p * q) := by
      rw [Nat.lcm_mul_left]
      congr 1
      unfold Nat.lcm
      rw [hc, Nat.div_one]
    rw [h2] at h1
    exact Nat.le_of_dvd (by omega) h1
  -- steps through one of them
  have via : ∀ (a b : Nat), 2 ≤ a → 2 ≤ b → Nat.gcd a b = 1 → PerC ws (g * a) → PerC ws (g * b) → ∀ k, 1 ≤ k → g * k < ws.length + 1 → ¬ a ∣ k → wt ws (g * k) = wt ws g := fun a b a2 b2 hab ha hb k k1 k2 hk => by
    obtain ⟨m, hm⟩ := lead (a := a) (b := b) (by omega) hab k
    have hm1 : (k + m * a) % b = 1 := by rw [hm, Nat.mod_eq_of_lt (by omega)]
    have nd : ¬ g * a ∣ g * k := fun z => hk (Nat.dvd_of_mul_dvd_mul_left (by omega) z)
    have s1 := steps (g := g * a) (W := fun x => wt ws (x % (ws.length + 1))) (C := fun x => ¬ g * a ∣ x) (fun x d hd hx => not_dvd_add x d hd hx) (Nat.dvd_refl _) (wt_ring ha) m (g * k) nd
    have s1' : wt ws ((g * k + g * a * m) % (ws.length + 1)) = wt ws (g * k % (ws.length + 1)) := s1
    rw [Nat.mod_eq_of_lt k2] at s1'
    rw [← s1']
    have e : g * k + g * a * m = g + g * b * ((k + m * a) / b) := by
      have h := Nat.div_add_mod (k + m * a) b
      rw [hm1] at h
      generalize (k + m * a) / b = t at *
      have h2 : g * (k + m * a) = g * (b * t + 1) := by rw [h]
      rw [Nat.mul_add, Nat.mul_add, Nat.mul_one] at h2
      rw [show g * a * m = g * (m * a) by rw [Nat.mul_assoc, Nat.mul_comm a m], Nat.mul_assoc g b t]
      omega
    rw [e]
    have nd1 : ¬ g * b ∣ g := fun z => by
      have := Nat.le_of_dvd (by omega) z
      have h3 : g * 2 ≤ g * b := Nat.mul_le_mul_left _ b2
      omega
    have s2 := steps (g := g * b) (W := fun x => wt ws (x % (ws.length + 1))) (C := fun x => ¬ g * b ∣ x) (fun x d hd hx => not_dvd_add x d hd hx) (Nat.dvd_refl _) (wt_ring hb) ((k + m * a) / b) g nd1
    have s2' : wt ws ((g + g * b * ((k + m * a) / b)) % (ws.length + 1)) = wt ws (g % (ws.length + 1)) := s2
    rw [s2']
    have hg : g < ws.length + 1 := by
      have : g * 1 ≤ g * k := Nat.mul_le_mul_left _ k1
      omega
    rw [Nat.mod_eq_of_lt hg]
  intro k k1 k2
  have k3 : g * k < ws.length + 1 := Nat.lt_of_lt_of_le (Nat.mul_lt_mul_of_pos_left k2 (by omega)) bound
  by_cases z : p ∣ k
  · have z2 : ¬ q ∣ k := fun z2 => by
      have : Nat.lcm p q ∣ k := Nat.lcm_dvd z z2
      unfold Nat.lcm at this
      rw [hc, Nat.div_one] at this
      have := Nat.le_of_dvd (by omega) this
      omega
    exact via q p q0 p0 (by rw [Nat.gcd_comm]; exact hc) hq hp k k1 k3 z2
  · exact via p q p0 q0 hc hp hq k k1 k3 z
/-! ## the list of inner numbers -/
theorem mem_innL {ws : List Int} {x : Int} : x ∈ innL ws ↔ ∃ n : Nat, x = (n : Int) ∧ PerC ws n := by
  unfold innL
  rw [List.mem_filter, List.mem_map]
  constructor
  · rintro ⟨⟨i, hi, rfl⟩, h⟩
    exact ⟨i + 1, rfl, per_c.mp (per_iff.mp h)⟩
  · rintro ⟨n, rfl, h⟩
    have h1 := h.1
    have h2 := Nat.le_of_dvd (by omega) h.2.1
    exact ⟨⟨n - 1, List.mem_range.mpr (by omega), by omega⟩, per_iff.mpr (per_c.mpr h)⟩
theorem innL_sorted (ws : List Int) : (innL ws).Pairwise (· < ·) := by
  unfold innL
  refine List.Pairwise.filter _ ?_
  rw [List.pairwise_map]
  exact List.pairwise_lt_range.imp fun h => by omega
theorem innL_len (ws : List Int) : (innL ws).length ≤ ws.length + 1 := by
  unfold innL
  refine Nat.le_trans (List.length_filter_le _ _) ?_
  rw [List.length_map, List.length_range]
  exact Nat.le_refl _
theorem sorted_ext : ∀ {xs ys : List Int}, xs.Pairwise (· < ·) → ys.Pairwise (· < ·) → (∀ x, x ∈ xs ↔ x ∈ ys) → xs = ys
  | [], [], _, _, _ => rfl
  | [], y :: ys, _, _, h => absurd ((h y).mpr List.mem_cons_self) (List.not_mem_nil)
  | x :: xs, [], _, _, h => absurd ((h x).mp List.mem_cons_self) (List.not_mem_nil)
  | x :: xs, y :: ys, hx, hy, h => by
    obtain ⟨x1, x2⟩ := List.pairwise_cons.mp hx
    obtain ⟨y1, y2⟩ := List.pairwise_cons.mp hy
    have e : x = y := by
      rcases List.mem_cons.mp ((h x).mp List.mem_cons_self) with z | z
      · exact z
      · rcases List.mem_cons.mp ((h y).mpr List.mem_cons_self) with u | u
        · exact u.symm
        · have := y1 x z
          have := x1 y u
          omega
    subst e
    rw [sorted_ext x2 y2 fun z => ⟨fun m => ?_, fun m => ?_⟩]
    · rcases List.mem_cons.mp ((h z).mp (List.mem_cons_of_mem _ m)) with u | u
      · have := x1 z m
        omega
      · exact u
    · rcases List.mem_cons.mp ((h z).mpr (List.mem_cons_of_mem _ m)) with u | u
      · have := y1 z m
        omega
      · exact u
/-! ## the two parts of a split -/
theorem low_len {ws : List Int} {n : Nat} (h : PerC ws n) : (blk ws n 0).length = n - 1 := by
  have h1 := Nat.le_of_dvd (by omega) h.2.1
  unfold blk
  rw [Nat.zero_mul, List.drop_zero, List.length_take]
  omega
theorem low_wt {ws : List Int} {n j : Nat} (h1 : 1 ≤ j) (h2 : j < n) : wt (blk ws n 0) j = wt ws j := by
  unfold wt
  rw [blk_get (by omega), Nat.zero_mul, Nat.zero_add]
theorem at_all (ws : List Int) : ∀ is : List Nat, (∀ i ∈ is, i < ws.length) → is.filterMap (fun i => ws[i]?) = is.map fun i => ws.getD i 0
  | [], _ => rfl
  | i :: is, h => by
    have hi := h i List.mem_cons_self
    rw [List.filterMap_cons_some (List.getElem?_eq_getElem hi), List.map_cons, at_all ws is fun j hj => h j (List.mem_cons_of_mem _ hj), List.getD_eq_getElem?_getD, List.getElem?_eq_getElem hi]
    rfl
theorem high_is {ws : List Int} {n q : Nat} (hn : 1 ≤ n) (hq : 1 ≤ q) (h : ws.length + 1 = n * q) : pks ws (n - 1) n = (List.range (q - 1)).map fun k => ws.getD (n - 1 + n * k) 0 := by
  have b1 : n * 1 ≤ n * q := Nat.mul_le_mul_left _ hq
  have e : (ws.length - (n - 1) + n - 1) / n = q - 1 := by
    have h2 : n * q = n * (q - 1) + n := by
      rw [← Nat.mul_succ]
      congr 1
      omega
    rw [show ws.length - (n - 1) + n - 1 = n - 1 + n * (q - 1) by omega, Nat.add_mul_div_left _ _ (by omega), Nat.div_eq_of_lt (by omega), Nat.zero_add]
  unfold pks
  rw [e, at_all ws _ fun i hi => ?_, List.map_map]
  · rfl
  · obtain ⟨k, hk, rfl⟩ := List.mem_map.mp hi
    have hk' := List.mem_range.mp hk
    have h3 : n * (k + 2) ≤ n * q := Nat.mul_le_mul_left _ (by omega)
    rw [Nat.mul_add] at h3
    omega
theorem high_len {ws : List Int} {n q : Nat} (hn : 1 ≤ n) (hq : 1 ≤ q) (h : ws.length + 1 = n * q) : (pks ws (n - 1) n).length = q - 1 := by
  rw [high_is hn hq h, List.length_map, List.length_range]
theorem high_wt {ws : List Int} {n q j : Nat} (hn : 1 ≤ n) (hq : 1 ≤ q) (h : ws.length + 1 = n * q) (h1 : 1 ≤ j) (h2 : j < q) : wt (pks ws (n - 1) n) j = wt ws (n * j) := by
  have h3 : n * (j + 1) ≤ n * q := Nat.mul_le_mul_left _ (by omega)
  have h4 : n * j = n * (j - 1) + n := by
    rw [← Nat.mul_succ]
    congr 1
    omega
  rw [Nat.mul_add] at h3
  unfold wt
  rw [high_is hn hq h, List.getElem?_map, List.getElem?_range (by omega), show n * j - 1 = n - 1 + n * (j - 1) by omega]
  show some (ws.getD (n - 1 + n * (j - 1)) 0) = _
  rw [List.getD_eq_getElem?_getD, List.getElem?_eq_getElem (by omega)]
  rfl
theorem per_low {ws : List Int} {n m : Nat} (h : PerC ws n) : PerC (blk ws n 0) m ↔ PerC ws m ∧ m ∣ n := by
  have hl := low_len h
  have h1 := h.1
  have hN := Nat.le_of_dvd (by omega) h.2.1
  have e1 : (blk ws n 0).length + 1 = n := by omega
  constructor
  · rintro ⟨m1, m2, m3⟩
    rw [e1] at m2 m3
    refine ⟨⟨m1, Nat.dvd_trans m2 h.2.1, fun i j i1 i2 j1 j2 e z => ?_⟩, m2⟩
    have red : ∀ i, 1 ≤ i → i < ws.length + 1 → i % m ≠ 0 → 1 ≤ i % n ∧ i % n < n ∧ wt ws i = wt (blk ws n 0) (i % n) ∧ i % n % m = i % m := fun i i1 i2 z => by
      have q1 : i % n % m = i % m := Nat.mod_mod_of_dvd _ m2
      have q2 := Nat.mod_lt i (show n > 0 by omega)
      have q3 : i % n ≠ 0 := fun y => by rw [y, Nat.zero_mod] at q1; exact z q1.symm
      refine ⟨by omega, q2, ?_, q1⟩
      rw [low_wt (by omega) q2]
      exact h.2.2 i (i % n) i1 i2 (by omega) (by omega) (Nat.mod_mod _ _).symm q3
    obtain ⟨a1, a2, a3, a4⟩ := red i i1 i2 z
    obtain ⟨b1, b2, b3, b4⟩ := red j j1 j2 (by rw [← e]; exact z)
    rw [a3, b3]
    exact m3 _ _ a1 a2 b1 b2 (by rw [a4, b4, e]) (by rw [a4]; exact z)
  · rintro ⟨⟨m1, m2, m3⟩, m4⟩
    refine ⟨m1, by rw [e1]; exact m4, ?_⟩
    rw [e1]
    intro i j i1 i2 j1 j2 e z
    rw [low_wt i1 i2, low_wt j1 j2]
    exact m3 i j i1 (by omega) j1 (by omega) e z
theorem per_high {ws : List Int} {n m : Nat} (h : PerC ws n) (hm : 1 ≤ m) : PerC (pks ws (n - 1) n) m ↔ PerC ws (n * m) := by
  have h1 := h.1
  obtain ⟨q, hq⟩ := h.2.1
  have q1 : 1 ≤ q := by
    cases q with
    | zero => rw [Nat.mul_zero] at hq; omega
    | succ q => omega
  have e1 : (pks ws (n - 1) n).length + 1 = q := by rw [high_len h1 q1 hq]; omega
  have lt : ∀ j, j < q → n * j < ws.length + 1 := fun j hj => by rw [hq]; exact Nat.mul_lt_mul_of_pos_left hj (by omega)
  have pos : ∀ j, 1 ≤ j → 1 ≤ n * j := fun j hj => Nat.mul_pos (by omega) (by omega)
  constructor
  · rintro ⟨m1, m2, m3⟩
    rw [e1] at m2 m3
    refine ⟨pos m m1, by rw [hq]; exact Nat.mul_dvd_mul_left n m2, fun i j i1 i2 j1 j2 e z => ?_⟩
    have en : i % n = j % n := by rw [← Nat.mod_mod_of_dvd i (Nat.dvd_mul_right n m), e, Nat.mod_mod_of_dvd j (Nat.dvd_mul_right n m)]
    by_cases zn : i % n = 0
    · obtain ⟨i', rfl⟩ := Nat.dvd_of_mod_eq_zero zn
      obtain ⟨j', rfl⟩ := Nat.dvd_of_mod_eq_zero (show j % n = 0 by rw [← en]; exact zn)
      have i1' : 1 ≤ i' := by
        cases i' with
        | zero => rw [Nat.mul_zero] at i1; omega
        | succ i => omega
      have j1' : 1 ≤ j' := by
        cases j' with
        | zero => rw [Nat.mul_zero] at j1; omega
        | succ i => omega
      rw [hq] at i2 j2
      have i2' := Nat.lt_of_mul_lt_mul_left i2
      have j2' := Nat.lt_of_mul_lt_mul_left j2
      rw [Nat.mul_mod_mul_left, Nat.mul_mod_mul_left] at e
      rw [Nat.mul_mod_mul_left] at z
      rw [← high_wt h1 q1 hq i1' i2', ← high_wt h1 q1 hq j1' j2']
      exact m3 i' j' i1' i2' j1' j2' (Nat.eq_of_mul_eq_mul_left (by omega) e) (fun y => z (by rw [y, Nat.mul_zero]))
    · exact h.2.2 i j i1 i2 j1 j2 en zn
  · rintro ⟨m1, m2, m3⟩
    refine ⟨hm, ?_, ?_⟩
    · rw [e1]
      rw [hq] at m2
      exact Nat.dvd_of_mul_dvd_mul_left (by omega) m2
    · rw [e1]
      intro i j i1 i2 j1 j2 e z
      rw [high_wt h1 q1 hq i1 i2, high_wt h1 q1 hq j1 j2]
      refine m3 _ _ (pos i i1) (lt i i2) (pos j j1) (lt j j2) ?_ ?_
      · rw [Nat.mul_mod_mul_left, Nat.mul_mod_mul_left, e]
      · rw [Nat.mul_mod_mul_left]
        intro y
        rcases Nat.mul_eq_zero.mp y with y | y
        · omega
        · exact z y
/-! ## ints in lists -/
theorem flat_ints (ns : List Int) : (ns.map V.int).all flatV = true := by
  rw [List.all_eq_true]
  intro v hv
  obtain ⟨n, _, rfl⟩ := List.mem_map.mp hv
  rfl
theorem inV_ints (x : Int) (ns : List Int) : inV (.int x) (ns.map V.int) = decide (x ∈ ns) := by
  unfold inV
  rw [List.any_map, Bool.eq_iff_iff, List.any_eq_true, decide_eq_true_eq]
  constructor
  · rintro ⟨n, hn, e⟩
    have e' : (n == x) = true := e
    rw [← eq_of_beq e']
    exact hn
  · intro h
    exact ⟨x, h, by show (x == x) = true; exact BEq.rfl⟩
theorem pair_parts {a b : Nat} (ha : 1 ≤ a) : ∃ p q, a = Nat.gcd a b * p ∧ b = Nat.gcd a b * q ∧ Nat.gcd p q = 1 ∧ Nat.lcm a b = Nat.gcd a b * (p * q) := by
  have g0 : 0 < Nat.gcd a b := Nat.gcd_pos_of_pos_left _ ha
  obtain ⟨p, hp⟩ := Nat.gcd_dvd_left a b
  obtain ⟨q, hq⟩ := Nat.gcd_dvd_right a b
  have hg : Nat.gcd a b * Nat.gcd p q = Nat.gcd a b * 1 := by
    rw [← Nat.gcd_mul_left, ← hp, ← hq, Nat.mul_one]
  have h1 := Nat.eq_of_mul_eq_mul_left g0 hg
  refine ⟨p, q, hp, hq, h1, ?_⟩
  have : Nat.lcm (Nat.gcd a b * p) (Nat.gcd a b * q) = Nat.gcd a b * (p * q) := by
    rw [Nat.lcm_mul_left]
    congr 1
    unfold Nat.lcm
    rw [h1, Nat.div_one]
  rw [← hp, ← hq] at this
  exact this
end Rn

set_option Elab.async false
set_option linter.all false
set_option maxRecDepth 100000
set_option maxHeartbeats 4000000
namespace Rn
open PySem PySem.Spec PyProof.Rows L2
/-! ## unsplittable policies -/
theorem per_one (ws : List Int) : Per ws 1 := ⟨Nat.le_refl _, Nat.one_dvd _, fun c r h _ => absurd h (by omega)⟩
theorem per_all (ws : List Int) : Per ws (ws.length + 1) := ⟨by omega, Nat.dvd_refl _, fun c r h1 h2 => by
  have : c = 0 := by
    rcases Nat.eq_zero_or_pos c with z | z
    · exact z
    · have : 1 * (ws.length + 1) ≤ c * (ws.length + 1) := Nat.mul_le_mul_right _ z
      omega
  rw [this, Nat.zero_mul, Nat.zero_add]⟩
theorem per_const {m n : Nat} {w : Int} : Per (List.replicate m w) n ↔ 1 ≤ n ∧ n ∣ m + 1 := by
  constructor
  · rintro ⟨h1, h2, _⟩
    rw [List.length_replicate] at h2
    exact ⟨h1, h2⟩
  · rintro ⟨h1, h2⟩
    refine ⟨h1, by rw [List.length_replicate]; exact h2, fun c r h3 h4 => ?_⟩
    rw [List.length_replicate] at h4
    rw [List.getElem?_replicate, List.getElem?_replicate, if_pos h4, if_pos (by
      have : r ≤ c * n + r := Nat.le_add_left _ _
      omega)]
theorem per_nest (xs ys : List Int) : Per (nestL xs ys) (xs.length + 1) := by
  have hl := nestL_len xs ys
  refine ⟨by omega, ⟨ys.length + 1, hl⟩, fun c r h1 h2 => ?_⟩
  have h3 : r ≤ c * (xs.length + 1) + r := Nat.le_add_left _ _
  rw [nestL_get _ _ _ h2, nestL_get _ _ r (by omega)]
  have m1 : (c * (xs.length + 1) + r + 1) % (xs.length + 1) = r + 1 := by
    rw [Nat.add_assoc, Nat.mul_comm, Nat.mul_add_mod, Nat.mod_eq_of_lt (by omega)]
  have m2 : (r + 1) % (xs.length + 1) = r + 1 := Nat.mod_eq_of_lt (by omega)
  rw [m1, m2, if_neg (by omega), if_neg (by omega)]
theorem inn_false {ws : List Int} {j : Nat} (h : ¬ Per ws j) : innB ws (j : Int) = false := by
  cases e : innB ws (j : Int) with
  | false => rfl
  | true => exact absurd (per_iff.mp e) h
/-- not trivial and nothing between 1 and all is an inner number -/
def Uns (ws : List Int) : Prop := 0 < ws.length ∧ ∀ j : Nat, 2 ≤ j → j < ws.length + 1 → innB ws (j : Int) = false
def unsB (ws : List Int) : Bool := decide (0 < ws.length) && (List.range (ws.length + 1)).all fun j => !(decide (2 ≤ j) && innB ws ((j : Nat) : Int))
theorem uns_iff {ws : List Int} : unsB ws = true ↔ Uns ws := by
  unfold unsB Uns
  rw [Bool.and_eq_true, decide_eq_true_eq, List.all_eq_true]
  constructor
  · rintro ⟨h1, h2⟩
    refine ⟨h1, fun j j1 j2 => ?_⟩
    have := h2 j (List.mem_range.mpr j2)
    rw [decide_eq_true j1, Bool.true_and] at this
    simpa using this
  · rintro ⟨h1, h2⟩
    refine ⟨h1, fun j hj => ?_⟩
    by_cases c : 2 ≤ j
    · rw [h2 j c (List.mem_range.mp hj), Bool.and_false]
      rfl
    · rw [decide_eq_false c, Bool.false_and]
      rfl
/-- the smallest inner number above 1 -/
def Sm (ws : List Int) (m : Nat) : Prop := (m = ws.length + 1 ∨ (2 ≤ m ∧ m < ws.length + 1 ∧ innB ws (m : Int) = true)) ∧ ∀ j : Nat, 2 ≤ j → j < m → innB ws (j : Int) = false
theorem sm_uns {ws : List Int} {m : Nat} (h : Sm ws m) (h0 : 0 < ws.length) : m = ws.length + 1 ↔ Uns ws := by
  constructor
  · intro e
    exact ⟨h0, fun j j1 j2 => h.2 j j1 (by omega)⟩
  · intro u
    rcases h.1 with e | ⟨h1, h2, h3⟩
    · exact e
    · rw [u.2 m h1 h2] at h3
      cases h3
theorem innL_two {ws : List Int} (h0 : 0 < ws.length) : innL ws = [1, (ws.length : Int) + 1] ↔ Uns ws := by
  constructor
  · intro e
    refine ⟨h0, fun j j1 j2 => inn_false fun hp => ?_⟩
    have hm : (j : Int) ∈ innL ws := mem_innL.mpr ⟨j, rfl, per_c.mp hp⟩
    rw [e] at hm
    simp only [List.mem_cons, List.not_mem_nil, or_false] at hm
    omega
  · intro u
    refine sorted_ext (innL_sorted ws) ?_ fun x => ?_
    · exact List.pairwise_cons.mpr ⟨fun x hx => by rw [List.mem_singleton.mp hx]; omega, List.pairwise_singleton _ _⟩
    · rw [mem_innL]
      simp only [List.mem_cons, List.not_mem_nil, or_false]
      constructor
      · rintro ⟨n, rfl, c⟩
        have n1 := c.1
        have n2 := Nat.le_of_dvd (by omega) c.2.1
        by_cases z1 : n = 1
        · exact .inl (by omega)
        · by_cases z2 : n = ws.length + 1
          · exact .inr (by omega)
          · have := u.2 n (by omega) (by omega)
            rw [per_iff.mpr (per_c.mpr c)] at this
            cases this
      · rintro (rfl | rfl)
        · exact ⟨1, rfl, per_c.mp (per_one ws)⟩
        · exact ⟨ws.length + 1, by push_cast; rfl, per_c.mp (per_all ws)⟩
theorem uns_const {m : Nat} {w : Int} : Uns (List.replicate m w) ↔ 0 < m ∧ ∀ j : Nat, 2 ≤ j → j < m + 1 → ¬ j ∣ m + 1 := by
  unfold Uns
  rw [List.length_replicate]
  constructor
  · rintro ⟨h1, h2⟩
    refine ⟨h1, fun j j1 j2 d => ?_⟩
    have := h2 j j1 j2
    rw [per_iff.mpr (per_const.mpr ⟨by omega, d⟩)] at this
    cases this
  · rintro ⟨h1, h2⟩
    exact ⟨h1, fun j j1 j2 => inn_false fun hp => h2 j j1 j2 (per_const.mp hp).2⟩
end Rn
namespace Rn
open PySem PySem.Spec PyProof.Rows L2
theorem sq_draw {K : PySem.W.Frag} {H0 H1 H' : Hp} {sa a : Addr} {c : Int} {xs : List V} (h : SqL K H0 sa xs) (f : H0 a = none) (s : Same H0 H1) (A : Rdv a c H1 H') : SqL K H' sa xs := by
  rcases h with (h | ⟨o, h⟩) | h
  · have ne : sa ≠ a := fun z => by rw [z, f] at h; cases h
    exact .inl (.inl (hid_get (A.same _ _ (hid_at (s _ _ h) ne ne))).1)
  · have ne : sa ≠ a := fun z => by rw [z, f] at h; cases h
    exact .inl (.inr ⟨o, (hid_get (A.same _ _ (hid_at (s _ _ h) ne ne))).1⟩)
  · exact .inr h
end Rn
namespace Rn
open PySem PySem.Spec PyProof.Rows L2
theorem nest_split {ws : List Int} {n : Nat} (h : PerC ws n) : nestL (blk ws n 0) (pks ws (n - 1) n) = ws := by
  obtain ⟨q, hq⟩ := h.2.1
  have n1 := h.1
  have q1 : 1 ≤ q := by
    rcases Nat.eq_zero_or_pos q with z | z
    · rw [z, Nat.mul_zero] at hq; omega
    · exact z
  have l1 := low_len h
  have l2 := high_len n1 q1 hq
  have ln := nestL_len (blk ws n 0) (pks ws (n - 1) n)
  rw [l1, l2, Nat.sub_add_cancel n1, Nat.sub_add_cancel q1, ← hq] at ln
  apply List.ext_getElem?
  intro j
  by_cases hj : j < ws.length
  · rw [nestL_get _ _ _ (by omega), l1, Nat.sub_add_cancel n1]
    have hdm := Nat.div_add_mod (j + 1) n
    by_cases c : (j + 1) % n = 0
    · rw [if_pos c]
      rw [c, Nat.add_zero] at hdm
      have k1 : 1 ≤ (j + 1) / n := by
        rcases Nat.eq_zero_or_pos ((j + 1) / n) with z | z
        · rw [z, Nat.mul_zero] at hdm; omega
        · exact z
      have k2 : (j + 1) / n < q := by
        rw [Nat.div_lt_iff_lt_mul (by omega), Nat.mul_comm, ← hq]
        omega
      have := high_wt n1 q1 hq k1 k2
      rw [hdm] at this
      exact this
    · rw [if_neg c]
      have ml := Nat.mod_lt (j + 1) (show n > 0 by omega)
      have h1 := low_wt (ws := ws) (n := n) (j := (j + 1) % n) (by omega) ml
      have h2 := h.2.2 (j + 1) ((j + 1) % n) (by omega) (by omega) (by omega) (by
        have := Nat.mod_le (j + 1) n
        omega) (by rw [Nat.mod_mod]) c
      exact h1.trans h2.symm
  · rw [List.getElem?_eq_none (by omega), List.getElem?_eq_none (by omega)]
theorem blk_mem {ws : List Int} {n c : Nat} {x : Int} (h : x ∈ blk ws n c) : x ∈ ws := List.mem_of_mem_drop (List.mem_of_mem_take h)
theorem pks_mem {ws : List Int} {lo c : Nat} {x : Int} (h : x ∈ pks ws lo c) : x ∈ ws := by
  unfold pks at h
  obtain ⟨i, _, hi⟩ := List.mem_filterMap.mp h
  exact List.mem_of_getElem? hi
end Rn

set_option Elab.async false
set_option linter.all false
set_option maxRecDepth 100000
set_option maxHeartbeats 4000000
namespace Rn
open PySem PySem.Spec PyProof.Rows L2
/-! # normal forms: one for each policy -/
def Lay.sz (L : Lay) : Nat := L.waits.length + 1
theorem per_low0 {ws : List Int} {n : Nat} (h : PerC ws n) : (blk ws n 0).length + 1 = n := by
  have := low_len h
  have := h.1
  omega
theorem nestL_inj {xs xs' : List Int} : ∀ {ys ys' : List Int}, xs.length = xs'.length → nestL xs ys = nestL xs' ys' → xs = xs' ∧ ys = ys' := by
  intro ys ys' hl h
  have key : ∀ (zs zs' : List Int), (zs.flatMap fun y => y :: xs) = (zs'.flatMap fun y => y :: xs) → zs = zs' := by
    intro zs
    induction zs with
    | nil => intro zs' h; cases zs' with
      | nil => rfl
      | cons z zs' => simp at h
    | cons z zs ih => intro zs' h; cases zs' with
      | nil => simp at h
      | cons z' zs' =>
        rw [List.flatMap_cons, List.flatMap_cons, List.cons_append, List.cons_append] at h
        injection h with h1 h2
        rw [h1, ih zs' (List.append_cancel_left h2)]
  unfold nestL at h
  obtain ⟨e1, e2⟩ := List.append_inj h hl
  subst e1
  exact ⟨rfl, key _ _ e2⟩
/-- a list of equal waits -/
def Flat1 (ns : List Int) : Prop := ∃ w, ns = List.replicate ns.length w
theorem flat1_of {ns : List Int} {w : Int} (h : ∀ x ∈ ns, x = w) : ns = List.replicate ns.length w := List.eq_replicate_iff.mpr ⟨rfl, h⟩
/-- a layer of a normal form -/
def Lay.nf : Lay → Prop
  | .con w n => 0 ≤ w ∧ 2 ≤ n
  | .pol ns => Uns ns ∧ ¬ Flat1 ns ∧ ∀ x ∈ ns, 0 ≤ x
theorem Lay.nf.ok {L : Lay} (h : L.nf) : L.ok = true := by
  cases L with
  | con w n =>
    obtain ⟨h1, h2⟩ := h
    rw [Lay.ok_con, decide_eq_true h1, decide_eq_true (show 1 ≤ n by omega)]
    rfl
  | pol ns =>
    rw [Lay.ok_pol, List.all_eq_true]
    exact fun x hx => decide_eq_true (h.2.2 x hx)
theorem Lay.nf.sz {L : Lay} (h : L.nf) : 2 ≤ L.sz := by
  cases L with
  | con w n =>
    show 2 ≤ (List.replicate (n - 1).toNat w).length + 1
    rw [List.length_replicate]
    have := h.2
    omega
  | pol ns =>
    show 2 ≤ ns.length + 1
    have := h.1.1
    omega
/-- no neighbouring constant layers with one wait -/
def Adj (ls : List Lay) : Prop := ∀ (i : Nat) (w n w' m : Int), ls[i]? = some (.con w n) → ls[i + 1]? = some (.con w' m) → w ≠ w'
def NF (ls : List Lay) : Prop := (∀ L ∈ ls, L.nf) ∧ Adj ls
theorem NF.tail {L : Lay} {ls : List Lay} (h : NF (L :: ls)) : NF ls := ⟨fun M hM => h.1 M (List.mem_cons_of_mem _ hM), fun i w n w' m a b => h.2 (i + 1) w n w' m a b⟩
theorem NF.oks {ls : List Lay} (h : NF ls) : ∀ L ∈ ls, L.ok = true := fun L hL => (h.1 L hL).ok
theorem head_per {L : Lay} {ls : List Lay} (h : ∀ M ∈ L :: ls, M.ok = true) : PerC (flatL (L :: ls)) L.sz := by
  rw [flatL_cons h]
  exact per_c.mp (per_nest _ _)
theorem head_split {L : Lay} {ls : List Lay} (h : ∀ M ∈ L :: ls, M.ok = true) : blk (flatL (L :: ls)) L.sz 0 = L.waits ∧ pks (flatL (L :: ls)) (L.sz - 1) L.sz = flatL ls := by
  have hp := head_per h
  have e := nest_split hp
  have l0 := per_low0 hp
  have e2 := flatL_cons h
  refine nestL_inj ?_ (e.trans e2)
  unfold Lay.sz at l0 ⊢
  omega
/-- an unsplittable inner part that is not constant stands in every inner part -/
theorem uns_in {ws : List Int} {a q : Nat} (ha : PerC ws a) (hu : Uns (blk ws a 0)) (hn : ¬ Flat1 (blk ws a 0)) (hq : PerC ws q) (q2 : 2 ≤ q) : a ∣ q := by
  have hg := per_gcd ha hq
  have ga := Nat.gcd_dvd_left a q
  have gq := Nat.gcd_dvd_right a q
  have la := per_low0 ha
  have a0 := hu.1
  by_cases c1 : Nat.gcd a q = a
  · exact c1 ▸ gq
  · exfalso
    have g0 : 1 ≤ Nat.gcd a q := Nat.gcd_pos_of_pos_left _ (by omega)
    have gle := Nat.le_of_dvd (by omega) ga
    by_cases c2 : Nat.gcd a q = 1
    · have hb := per_between (g := 1) (p := a) (q := q) (by rw [Nat.one_mul]; exact ha) (by rw [Nat.one_mul]; exact hq) c2 (by omega) (by omega)
      apply hn
      refine ⟨(blk ws a 0).getD 0 0, flat1_of fun x hx => ?_⟩
      obtain ⟨i, hi, e⟩ := List.getElem_of_mem hx
      have w1 := low_wt (ws := ws) (n := a) (j := i + 1) (by omega) (by omega)
      have w2 := low_wt (ws := ws) (n := a) (j := 1) (by omega) (by omega)
      have h1 := hb (i + 1) (by omega) (by
        have : a * 2 ≤ a * q := Nat.mul_le_mul_left _ q2
        omega)
      rw [Nat.one_mul] at h1
      have h2 : wt (blk ws a 0) (i + 1) = wt (blk ws a 0) 1 := by rw [w1, w2, h1]
      unfold wt at h2
      rw [Nat.add_sub_cancel, Nat.sub_self, List.getElem?_eq_getElem hi] at h2
      rw [List.getD_eq_getElem?_getD, ← h2, ← e]
      rfl
    · have h1 : PerC (blk ws a 0) (Nat.gcd a q) := (per_low ha).mpr ⟨hg, ga⟩
      have h2 := hu.2 (Nat.gcd a q) (by omega) (by omega)
      rw [per_iff.mpr (per_c.mpr h1)] at h2
      cases h2
theorem blk_prefix {ws : List Int} {a q : Nat} (h : a ≤ q) (ha : 1 ≤ a) : blk ws a 0 = (blk ws q 0).take (a - 1) := by
  unfold blk
  rw [Nat.zero_mul, Nat.zero_mul, List.take_take]
  congr 1
  omega
theorem flat1_take {xs : List Int} {k : Nat} (h : Flat1 xs) : Flat1 (xs.take k) := by
  obtain ⟨w, hw⟩ := h
  refine ⟨w, flat1_of fun x hx => ?_⟩
  have := List.mem_of_mem_take hx
  rw [hw] at this
  exact (List.mem_replicate.mp this).2
/-- where an inner part is constant, the first layer is a constant one with its wait -/
theorem head_con {ls : List Lay} (h : NF ls) {q : Nat} {w : Int} (hq : PerC (flatL ls) q) (q2 : 2 ≤ q) (hw : ∀ x ∈ blk (flatL ls) q 0, x = w) : ∃ n r, ls = .con w n :: r := by
  have lq := per_low0 hq
  cases ls with
  | nil =>
    have := Nat.le_of_dvd (by omega) hq.2.1
    have e : (flatL []).length = 0 := rfl
    omega
  | cons L r =>
    obtain ⟨e1, e2⟩ := head_split h.oks
    have hp := head_per h.oks
    have hL := h.1 L List.mem_cons_self
    cases L with
    | pol ns =>
      exfalso
      have hd := uns_in hp (by rw [e1]; exact hL.1) (by rw [e1]; exact hL.2.1) hq q2
      have hle := Nat.le_of_dvd (by omega) hd
      have e3 := blk_prefix (ws := flatL (.pol ns :: r)) hle hp.1
      apply hL.2.1
      have e4 : ns = (blk (flatL (.pol ns :: r)) q 0).take ((Lay.pol ns).sz - 1) := by rw [← e3, e1]; rfl
      rw [e4]
      exact flat1_take ⟨w, flat1_of hw⟩
    | con v n =>
      have hs := hL.sz
      have l1 := per_low0 hp
      have p1 := low_wt (ws := flatL (.con v n :: r)) (n := (Lay.con v n).sz) (j := 1) (Nat.le_refl _) (by omega)
      have p2 := low_wt (ws := flatL (.con v n :: r)) (n := q) (j := 1) (Nat.le_refl _) (by omega)
      have p3 := p1.trans p2.symm
      unfold wt at p3
      rw [e1, Nat.sub_self] at p3
      have hq0 : 0 < (blk (flatL (.con v n :: r)) q 0).length := by omega
      rw [List.getElem?_eq_getElem hq0] at p3
      have x1 := hw _ (List.getElem_mem hq0)
      rw [x1] at p3
      have x2 : (List.replicate (n - 1).toNat v)[0]? = some w := p3
      have x3 := List.mem_of_getElem? x2
      rw [(List.mem_replicate.mp x3).2]
      exact ⟨n, r, rfl⟩
/-- two first layers, both constant: one divides the other -/
theorem con_con {w n v m : Int} {ls ms : List Lay} (hl : NF (.con w n :: ls)) (hm : NF (.con v m :: ms)) (e : flatL (.con w n :: ls) = flatL (.con v m :: ms)) : (Lay.con v m).sz ∣ (Lay.con w n).sz := by
  have pa := head_per hl.oks
  have pb := head_per hm.oks
  rw [← e] at pb
  obtain ⟨a1, a2⟩ := head_split hl.oks
  obtain ⟨b1, b2⟩ := head_split hm.oks
  rw [← e] at b1 b2
  have sa := (hl.1 _ List.mem_cons_self).sz
  have sb := (hm.1 _ List.mem_cons_self).sz
  generalize hws : flatL (.con w n :: ls) = ws at *
  generalize ha : (Lay.con w n).sz = a at *
  generalize hb : (Lay.con v m).sz = b at *
  have la := per_low0 pa
  have lb := per_low0 pb
  have wa : ∀ j, 1 ≤ j → j < a → wt ws j = some w := fun j j1 j2 => by
    rw [← low_wt j1 j2]
    unfold wt
    rw [a1]
    have : j - 1 < (Lay.con w n).waits.length := by rw [a1] at la; omega
    rw [List.getElem?_eq_getElem this]
    have := List.getElem_mem this
    exact congrArg some (List.mem_replicate.mp (show _ ∈ List.replicate (n - 1).toNat w from this)).2
  have wb : ∀ j, 1 ≤ j → j < b → wt ws j = some v := fun j j1 j2 => by
    rw [← low_wt j1 j2]
    unfold wt
    rw [b1]
    have : j - 1 < (Lay.con v m).waits.length := by rw [b1] at lb; omega
    rw [List.getElem?_eq_getElem this]
    have := List.getElem_mem this
    exact congrArg some (List.mem_replicate.mp (show _ ∈ List.replicate (m - 1).toNat v from this)).2
  have ewv : w = v := Option.some.inj ((wa 1 (Nat.le_refl _) (by omega)).symm.trans (wb 1 (Nat.le_refl _) (by omega)))
  subst ewv
  have pl := per_lcm pa pb
  have dl : a ∣ Nat.lcm a b := Nat.dvd_lcm_left a b
  obtain ⟨c, hc⟩ := dl
  by_cases c1 : c = 1
  · rw [c1, Nat.mul_one] at hc
    rw [← hc]
    exact Nat.dvd_lcm_right a b
  · exfalso
    have c0 : c ≠ 0 := by
      intro z
      rw [z, Nat.mul_zero] at hc
      have := Nat.lcm_pos (show 0 < a by omega) (show 0 < b by omega)
      omega
    have ph : PerC (pks ws (a - 1) a) c := (per_high pa (by omega)).mpr (by rw [← hc]; exact pl)
    have lle := Nat.le_of_dvd (by omega) pl.2.1
    obtain ⟨q, hq⟩ := pa.2.1
    have q1 : 1 ≤ q := by
      rcases Nat.eq_zero_or_pos q with z | z
      · rw [z, Nat.mul_zero] at hq; omega
      · exact z
    have lhi := high_len pa.1 q1 hq
    have lc := per_low0 ph
    have cq := Nat.le_of_dvd (by omega) ph.2.1
    rw [lhi] at cq
    rw [a2] at ph lc
    obtain ⟨k, r, hr⟩ := head_con hl.tail (w := w) ph (by omega) fun x hx => by
      obtain ⟨i, hi, ex⟩ := List.getElem_of_mem hx
      have h1 := low_wt (ws := flatL ls) (n := c) (j := i + 1) (by omega) (by omega)
      have h2 := high_wt (ws := ws) pa.1 q1 hq (j := i + 1) (by omega) (by omega)
      rw [a2] at h2
      have h3 := h1.trans h2
      unfold wt at h3
      rw [Nat.add_sub_cancel, List.getElem?_eq_getElem hi, ex] at h3
      have hlt : a * (i + 1) < Nat.lcm a b := by
        rw [hc]
        exact Nat.mul_lt_mul_of_pos_left (by omega) (by omega)
      have nd : (a * (i + 1)) % b ≠ 0 := fun z => by
        have d1 : b ∣ a * (i + 1) := Nat.dvd_of_mod_eq_zero z
        have d2 := Nat.lcm_dvd (Nat.dvd_mul_right a (i + 1)) d1
        have pos : 0 < a * (i + 1) := Nat.mul_pos (by omega) (by omega)
        have := Nat.le_of_dvd pos d2
        omega
      have ml := Nat.mod_lt (a * (i + 1)) (show b > 0 by omega)
      have pos : 1 ≤ a * (i + 1) := Nat.mul_pos (by omega) (by omega)
      have mle := Nat.mod_le (a * (i + 1)) b
      have h4 := pb.2.2 (a * (i + 1)) ((a * (i + 1)) % b) pos (by omega) (by omega) (by omega) (by rw [Nat.mod_mod]) nd
      have h5 := wb ((a * (i + 1)) % b) (by omega) ml
      unfold wt at h4 h5
      rw [← h3, h5] at h4
      exact Option.some.inj h4
    rw [hr] at hl
    exact hl.2 0 w n w k rfl rfl rfl
theorem nf_unique : ∀ {ls ms : List Lay}, NF ls → NF ms → flatL ls = flatL ms → ls = ms := by
  have short : ∀ {L : Lay} {r : List Lay}, NF (L :: r) → 0 < (flatL (L :: r)).length := fun {L r} h => by
    have hp := head_per h.oks
    have hs := (h.1 L List.mem_cons_self).sz
    have := Nat.le_of_dvd (by omega) hp.2.1
    omega
  intro ls
  induction ls with
  | nil =>
    intro ms _ hm e
    cases ms with
    | nil => rfl
    | cons M r =>
      have := short hm
      rw [← e] at this
      exact absurd this (Nat.lt_irrefl 0)
  | cons L ls ih =>
    intro ms hl hm e
    cases ms with
    | nil =>
      have := short hl
      rw [e] at this
      exact absurd this (Nat.lt_irrefl 0)
    | cons M ms =>
      have pa := head_per hl.oks
      have pb := head_per hm.oks
      obtain ⟨a1, a2⟩ := head_split hl.oks
      obtain ⟨b1, b2⟩ := head_split hm.oks
      have nL := hl.1 L List.mem_cons_self
      have nM := hm.1 M List.mem_cons_self
      have sa := nL.sz
      have sb := nM.sz
      have fin : L.sz = M.sz → L = M → L :: ls = M :: ms := fun e1 e2 => by
        subst e2
        rw [flatL_cons hl.oks, flatL_cons hm.oks] at e
        rw [ih hl.tail hm.tail (nestL_inj rfl e).2]
      have same : L.sz = M.sz → L.waits = M.waits := fun e1 => by rw [← a1, ← b1, e, e1]
      cases L with
      | pol ns =>
        have ua := fun {q : Nat} (hq : PerC (flatL (.pol ns :: ls)) q) (q2 : 2 ≤ q) => uns_in pa (by rw [a1]; exact nL.1) (by rw [a1]; exact nL.2.1) hq q2
        cases M with
        | pol ms' =>
          have d1 := ua (by rw [e]; exact pb) sb
          have d2 := uns_in pb (by rw [b1]; exact nM.1) (by rw [b1]; exact nM.2.1) (by rw [← e]; exact pa) sa
          have es := Nat.dvd_antisymm d1 d2
          have := same es
          exact fin es (congrArg Lay.pol this)
        | con v m =>
          exfalso
          have d1 := ua (by rw [e]; exact pb) sb
          have hle := Nat.le_of_dvd (by omega) d1
          have e3 := blk_prefix (ws := flatL (.pol ns :: ls)) hle pa.1
          rw [a1, e, b1] at e3
          apply nL.2.1
          have e4 : ns = (Lay.con v m).waits.take ((Lay.pol ns).sz - 1) := e3
          rw [e4]
          exact flat1_take ⟨v, by
            show List.replicate (m - 1).toNat v = List.replicate (List.replicate (m - 1).toNat v).length v
            rw [List.length_replicate]⟩
      | con w n =>
        cases M with
        | pol ms' =>
          exfalso
          have d1 := uns_in pb (by rw [b1]; exact nM.1) (by rw [b1]; exact nM.2.1) (by rw [← e]; exact pa) sa
          have hle := Nat.le_of_dvd (by omega) d1
          have e3 := blk_prefix (ws := flatL (.pol ms' :: ms)) hle pb.1
          rw [b1, ← e, a1] at e3
          apply nM.2.1
          have e4 : ms' = (Lay.con w n).waits.take ((Lay.pol ms').sz - 1) := e3
          rw [e4]
          exact flat1_take ⟨w, by
            show List.replicate (n - 1).toNat w = List.replicate (List.replicate (n - 1).toNat w).length w
            rw [List.length_replicate]⟩
        | con v m =>
          have d1 := con_con hl hm e
          have d2 := con_con hm hl e.symm
          have es := Nat.dvd_antisymm d2 d1
          have ew := same es
          have s1 : (Lay.con w n).sz = (n - 1).toNat + 1 := by
            show (List.replicate (n - 1).toNat w).length + 1 = _
            rw [List.length_replicate]
          have s2 : (Lay.con v m).sz = (m - 1).toNat + 1 := by
            show (List.replicate (m - 1).toNat v).length + 1 = _
            rw [List.length_replicate]
          have n2 := nL.2
          have m2 := nM.2
          have enm : n = m := by omega
          subst enm
          obtain ⟨k, hk⟩ : ∃ k, (n - 1).toNat = k + 1 := ⟨(n - 1).toNat - 1, by omega⟩
          have ew' : List.replicate (n - 1).toNat w = List.replicate (n - 1).toNat v := ew
          rw [hk, List.replicate_succ, List.replicate_succ] at ew'
          injection ew' with ew1 ew2
          subst ew1
          exact fin rfl rfl
end Rn
namespace Rn
open PySem PySem.Spec PyProof.Rows L2
/-! ## the parts of a list -/
theorem sm_per {ws : List Int} {n : Nat} (h : Sm ws n) (h0 : 0 < ws.length) : 2 ≤ n ∧ PerC ws n := by
  rcases h.1 with e | ⟨h1, h2, h3⟩
  · exact ⟨by omega, by rw [e]; exact per_c.mp (per_all ws)⟩
  · exact ⟨h1, per_c.mp (per_iff.mp h3)⟩
theorem sm_uns_low {ws : List Int} {n : Nat} (h : Sm ws n) (h0 : 0 < ws.length) : Uns (blk ws n 0) := by
  obtain ⟨n2, hp⟩ := sm_per h h0
  have hl := per_low0 hp
  refine ⟨by omega, fun j j1 j2 => inn_false fun z => ?_⟩
  have h1 := ((per_low hp).mp (per_c.mp z)).1
  have := h.2 j j1 (by omega)
  rw [per_iff.mpr (per_c.mpr h1)] at this
  cases this
inductive Parts : List Int → List Lay → Prop
  | nil : Parts [] []
  | con {ws : List Int} {n : Nat} {w : Int} {ls : List Lay} (h0 : 0 < ws.length) (hm : Sm ws n) (hc : blk ws n 0 = List.replicate (n - 1) w) (t : Parts (pks ws (n - 1) n) ls) : Parts ws (.con w (n : Int) :: ls)
  | pol {ws : List Int} {n : Nat} {ls : List Lay} (h0 : 0 < ws.length) (hm : Sm ws n) (hc : ¬ Flat1 (blk ws n 0)) (t : Parts (pks ws (n - 1) n) ls) : Parts ws (.pol (blk ws n 0) :: ls)
theorem parts_ok {ws : List Int} {ls : List Lay} (h : Parts ws ls) (hn : ∀ x ∈ ws, 0 ≤ x) : (∀ L ∈ ls, L.nf) ∧ flatL ls = ws := by
  induction h with
  | nil => exact ⟨(fun _ z => nomatch z), rfl⟩
  | con h0 hm hc t ih =>
    rename_i ws n w ls
    obtain ⟨i1, i2⟩ := ih fun x hx => hn x (pks_mem hx)
    obtain ⟨n2, hp⟩ := sm_per hm h0
    have hw : w ∈ blk ws n 0 := by rw [hc]; exact List.mem_replicate.mpr ⟨by omega, rfl⟩
    have g : (Lay.con w (n : Int)).nf := ⟨hn w (blk_mem hw), by omega⟩
    have all : ∀ L ∈ Lay.con w (n : Int) :: ls, L.nf := fun L hL => by
      rcases List.mem_cons.mp hL with e | e
      · rw [e]; exact g
      · exact i1 L e
    refine ⟨all, ?_⟩
    rw [flatL_cons fun L hL => (all L hL).ok, i2]
    have e : (Lay.con w (n : Int)).waits = blk ws n 0 := by
      rw [hc]
      show List.replicate ((n : Int) - 1).toNat w = _
      congr 1
      omega
    rw [e, nest_split hp]
  | pol h0 hm hc t ih =>
    rename_i ws n ls
    obtain ⟨i1, i2⟩ := ih fun x hx => hn x (pks_mem hx)
    obtain ⟨n2, hp⟩ := sm_per hm h0
    have g : (Lay.pol (blk ws n 0)).nf := ⟨sm_uns_low hm h0, hc, fun x hx => hn x (blk_mem hx)⟩
    have all : ∀ L ∈ Lay.pol (blk ws n 0) :: ls, L.nf := fun L hL => by
      rcases List.mem_cons.mp hL with e | e
      · rw [e]; exact g
      · exact i1 L e
    refine ⟨all, ?_⟩
    rw [flatL_cons fun L hL => (all L hL).ok, i2]
    exact nest_split hp
/-! ## merging -/
def pushL (acc : List Lay) (L : Lay) : List Lay :=
  match acc.getLast?, L with
  | some (.con w n), .con v m => if w = v then acc.dropLast ++ [.con w (n * m)] else acc ++ [L]
  | _, _ => acc ++ [L]
def mergeL (ls : List Lay) : List Lay := ls.foldl pushL []
theorem flatF {ls : List Lay} (h : ∀ L ∈ ls, L.ok = true) (L : Lay) (hL : L.ok = true) : flatL (ls ++ [L]) = nestL (flatL ls) L.waits := by
  have h2 : ∀ M ∈ ls ++ [L], M.ok = true := fun M hM => by
    rcases List.mem_append.mp hM with z | z
    · exact h M z
    · rw [List.mem_singleton.mp z]; exact hL
  rw [flatL_fold h2, flatL_fold h, List.foldl_append]
  rfl
theorem nest_rep (a b : Nat) (w : Int) : nestL (List.replicate a w) (List.replicate b w) = List.replicate ((a + 1) * (b + 1) - 1) w := by
  refine List.eq_replicate_iff.mpr ⟨?_, fun x hx => ?_⟩
  · have := nestL_len (List.replicate a w) (List.replicate b w)
    rw [List.length_replicate, List.length_replicate] at this
    omega
  · rcases nestL_mem hx with z | z
    · exact (List.mem_replicate.mp z).2
    · exact (List.mem_replicate.mp z).2
theorem push_cases (acc : List Lay) (L : Lay) : (∃ A w n m, acc = A ++ [.con w n] ∧ L = .con w m ∧ pushL acc L = A ++ [.con w (n * m)]) ∨ (pushL acc L = acc ++ [L] ∧ ∀ A w n v m, acc = A ++ [.con w n] → L = .con v m → w ≠ v) := by
  unfold pushL
  rcases List.eq_nil_or_concat acc with e | ⟨A, B, e⟩
  · subst e
    exact .inr ⟨rfl, fun A w n v m z => absurd z (by simp)⟩
  · rw [List.concat_eq_append] at e
    subst e
    rw [List.getLast?_append, List.getLast?_singleton, Option.some_or]
    cases B with
    | pol ns => exact .inr ⟨rfl, fun A' w n v m z => by have := (List.append_inj' z rfl).2; cases this⟩
    | con w n =>
      cases L with
      | pol ms => exact .inr ⟨rfl, fun A' w n v m z z2 => by cases z2⟩
      | con v m =>
        by_cases c : w = v
        · subst c
          exact .inl ⟨A, w, n, m, rfl, rfl, by rw [List.dropLast_concat]; exact if_pos rfl⟩
        · refine .inr ⟨if_neg c, fun A' w' n' v' m' z z2 => ?_⟩
          have := (List.append_inj' z rfl).2
          cases this
          cases z2
          exact c
theorem push_ok {acc : List Lay} {L : Lay} (h : NF acc) (hL : L.nf) : NF (pushL acc L) ∧ flatL (pushL acc L) = nestL (flatL acc) L.waits := by
  rcases push_cases acc L with ⟨A, w, n, m, rfl, rfl, e⟩ | ⟨e, hne⟩
  · rw [e]
    have hc := h.1 (.con w n) (List.mem_append_right _ List.mem_cons_self)
    have n2 : 2 ≤ n := hc.2
    have m2 : 2 ≤ m := hL.2
    have nm : 2 * 2 ≤ n * m := Int.mul_le_mul n2 m2 (by decide) (by omega)
    have g : (Lay.con w (n * m)).nf := ⟨hc.1, by omega⟩
    have hA : ∀ M ∈ A, M.nf := fun M hM => h.1 M (List.mem_append_left _ hM)
    refine ⟨⟨fun M hM => ?_, fun i v k v' k' a b => ?_⟩, ?_⟩
    · rcases List.mem_append.mp hM with z | z
      · exact hA M z
      · rw [List.mem_singleton.mp z]; exact g
    · have hi : i + 1 < (A ++ [Lay.con w (n * m)]).length := (List.getElem?_eq_some_iff.mp b).1
      rw [List.length_append, List.length_singleton] at hi
      rw [List.getElem?_append_left (by omega)] at a
      by_cases hj : i + 1 < A.length
      · rw [List.getElem?_append_left hj] at b
        exact h.2 i v k v' k' (by rw [List.getElem?_append_left (by omega)]; exact a) (by rw [List.getElem?_append_left hj]; exact b)
      · have ej : i + 1 = A.length := by omega
        rw [List.getElem?_append_right (by omega), ej, Nat.sub_self] at b
        cases b
        exact h.2 i v k w n (by rw [List.getElem?_append_left (by omega)]; exact a) (by rw [List.getElem?_append_right (by omega), ej, Nat.sub_self]; rfl)
    · rw [flatF (fun M hM => (hA M hM).ok) _ g.ok, flatF (fun M hM => (hA M hM).ok) _ hc.ok, nestL_assoc]
      congr 1
      show List.replicate (n * m - 1).toNat w = nestL (List.replicate (n - 1).toNat w) (List.replicate (m - 1).toNat w)
      rw [nest_rep, show (n - 1).toNat + 1 = n.toNat by omega, show (m - 1).toNat + 1 = m.toNat by omega, ← Int.toNat_mul (by omega) (by omega)]
      congr 1
      omega
  · rw [e]
    refine ⟨⟨fun M hM => ?_, fun i v k v' k' a b => ?_⟩, flatF h.oks L hL.ok⟩
    · rcases List.mem_append.mp hM with z | z
      · exact h.1 M z
      · rw [List.mem_singleton.mp z]; exact hL
    · have hi : i + 1 < (acc ++ [L]).length := (List.getElem?_eq_some_iff.mp b).1
      rw [List.length_append, List.length_singleton] at hi
      rw [List.getElem?_append_left (by omega)] at a
      by_cases hj : i + 1 < acc.length
      · rw [List.getElem?_append_left hj] at b
        exact h.2 i v k v' k' a b
      · have ej : i + 1 = acc.length := by omega
        rw [List.getElem?_append_right (by omega), ej, Nat.sub_self] at b
        have b : some L = some (Lay.con v' k') := b
        have hA : acc = acc.dropLast ++ [Lay.con v k] := by
          have hne2 : acc ≠ [] := fun z => by rw [z] at ej; simp at ej
          have h1 := (List.dropLast_concat_getLast hne2).symm
          have h2 : acc.getLast hne2 = Lay.con v k := by
            have h3 : acc[acc.length - 1]? = some (acc.getLast hne2) := by rw [← List.getLast?_eq_getElem?, List.getLast?_eq_some_getLast hne2]
            rw [show acc.length - 1 = i by omega, a] at h3
            exact (Option.some.inj h3).symm
          rw [h2] at h1
          exact h1
        exact hne _ v k v' k' hA (Option.some.inj b)
theorem merge_from : ∀ (ls : List Lay) {acc : List Lay}, NF acc → (∀ L ∈ ls, L.nf) → NF (ls.foldl pushL acc) ∧ flatL (ls.foldl pushL acc) = ls.foldl (fun a L => nestL a L.waits) (flatL acc)
  | [], acc, h, _ => ⟨h, rfl⟩
  | L :: ls, acc, h, hl => by
    obtain ⟨p1, p2⟩ := push_ok h (hl L List.mem_cons_self)
    obtain ⟨q1, q2⟩ := merge_from ls p1 fun M hM => hl M (List.mem_cons_of_mem _ hM)
    exact ⟨q1, by rw [List.foldl_cons, q2, p2, List.foldl_cons]⟩
theorem merge_ok {ls : List Lay} (h : ∀ L ∈ ls, L.nf) : NF (mergeL ls) ∧ flatL (mergeL ls) = flatL ls := by
  have h0 : NF ([] : List Lay) := ⟨(fun _ z => nomatch z), fun i w n w' m a => by cases a⟩
  obtain ⟨p1, p2⟩ := merge_from ls h0 h
  refine ⟨p1, ?_⟩
  rw [flatL_fold fun L hL => (h L hL).ok]
  exact p2
/-! ## rules of the written part; comprehensions with two for -/
theorem pi_listK {X : Cx} {K : PySem.W.Frag} (h : X.K = K) {tg l : Expr} {tl : TE} (hl : PE X l tl) : PI X tg l (iList K tl) := by subst h; exact pi_list hl
/-- the inner for, over a list that stands still -/
theorem in_list {K : PySem.W.Frag} {b : Addr} {ys : List V} {g1 : TG} {tt1 : TT} {te : TE} {vs1 : List Nat} {σ2 : L2.St} {H4 : Hp} {D : Addr} {Nx : Hp → Prop} (Pw : Nat → Hp → Prop) (h0 : Pw 0 H4) (hl : ∀ j H, j ≤ ys.length → Pw j H → SqL K H b ys)
    (hs : ∀ j y H, ys[j]? = some y → Pw j H → g1 y (wipe σ2 vs1) H fun σ3 H5 => wipe σ3 vs1 = wipe σ2 vs1 ∧ tt1 σ3 H5 fun c H6 => if c = true then te σ3 H6 fun v H7 => ∃ acc, H7 D = some (.lst acc) ∧ acc.length < sizeLine ∧ Pw (j + 1) (upd H7 D (.lst (acc ++ [v]))) else Pw (j + 1) H6)
    (hd : ∀ H, Pw ys.length H → Nx H) :
    ∃ W1 : Nat → Nat → Hp → Prop, (∃ m, W1 0 m H4) ∧ ∀ j k H, W1 j k H →
      ((Itl K b).stop j H ∧ Nx H) ∨ ((Itl K b).go j H ∧ ∃ Nx1 : Hp → Prop, (∀ H', Nx1 H' → ∃ k', k' < k ∧ W1 (j + 1) k' H') ∧ ∀ x H', (Itl K b).yld j H x H' → g1 x (wipe σ2 vs1) H' fun σ3 H5 => wipe σ3 vs1 = wipe σ2 vs1 ∧ tt1 σ3 H5 fun c H6 =>
        if c = true then te σ3 H6 fun y H7 => ∃ acc, H7 D = some (.lst acc) ∧ acc.length < sizeLine ∧ Nx1 (upd H7 D (.lst (acc ++ [y]))) else Nx1 H6) := by
  refine ⟨fun i m H => m = ys.length - i ∧ i ≤ ys.length ∧ Pw i H, ⟨ys.length, by simp, Nat.zero_le _, h0⟩, ?_⟩
  rintro i m H ⟨rfl, hi, p⟩
  have q := hl i H hi p
  by_cases hlt : i < ys.length
  · refine .inr ⟨⟨ys, ys[i], q, by simp [hlt]⟩, Pw (i + 1), fun H' p' => ⟨ys.length - (i + 1), by omega, rfl, hlt, p'⟩, fun x H' y => ?_⟩
    obtain ⟨e, y⟩ := y
    subst e
    exact hs i x _ (y ys q) p
  · have e : i = ys.length := by omega
    subst e
    exact .inl ⟨⟨ys, q, Nat.le_refl _⟩, hd H p⟩
/-- the outer for -/
theorem out_list {K : PySem.W.Frag} {a : Addr} {xs : List V} {vs : List Nat} {σ : L2.St} {H1 : Hp} {D : Addr} {Qd : Hp → Prop} {B : V → Hp → (Hp → Prop) → Prop} (Pv : Nat → Hp → Prop) (h0 : Pv 0 (upd H1 D (.lst []))) (hl : ∀ i H, i ≤ xs.length → Pv i H → SqL K H a xs)
    (hs : ∀ i x H, xs[i]? = some x → Pv i H → B x H (Pv (i + 1))) (hd : ∀ H, Pv xs.length H → Qd H) :
    ∃ W : Nat → Nat → Hp → Prop, (∃ m, W 0 m (upd H1 D (.lst []))) ∧ ∀ i m H, W i m H →
      ((Itl K a).stop i H ∧ Qd H) ∨ ((Itl K a).go i H ∧ ∃ Nx : Hp → Prop, (∀ H', Nx H' → ∃ m', m' < m ∧ W (i + 1) m' H') ∧ ∀ x H', (Itl K a).yld i H x H' → B x H' Nx) := by
  refine ⟨fun i m H => m = xs.length - i ∧ i ≤ xs.length ∧ Pv i H, ⟨xs.length, by simp, Nat.zero_le _, h0⟩, ?_⟩
  rintro i m H ⟨rfl, hi, p⟩
  have q := hl i H hi p
  by_cases hlt : i < xs.length
  · refine .inr ⟨⟨xs, xs[i], q, by simp [hlt]⟩, Pv (i + 1), fun H' p' => ⟨xs.length - (i + 1), by omega, rfl, hlt, p'⟩, fun x H' y => ?_⟩
    obtain ⟨e, y⟩ := y
    subst e
    exact hs i x _ (y xs q) p
  · have e : i = xs.length := by omega
    subst e
    exact .inl ⟨⟨xs, q, Nat.le_refl _⟩, hd H p⟩
end Rn
namespace Rn
open PySem PySem.Spec PyProof.Rows L2
abbrev N0 : Hp := fun _ => none
theorem flat_app : ∀ {As Bs : List Lay}, (∀ L ∈ As, L.ok = true) → (∀ L ∈ Bs, L.ok = true) → flatL (As ++ Bs) = nestL (flatL As) (flatL Bs)
  | [], Bs, _, _ => by
    show flatL Bs = nestL [] (flatL Bs)
    rw [nil_nestL]
  | A :: As, Bs, h, h2 => by
    have h3 : ∀ L ∈ A :: (As ++ Bs), L.ok = true := fun L hL => by
      rcases List.mem_cons.mp hL with e | e
      · exact h L (e ▸ List.mem_cons_self)
      · rcases List.mem_append.mp e with z | z
        · exact h L (List.mem_cons_of_mem _ z)
        · exact h2 L z
    show flatL (A :: (As ++ Bs)) = _
    rw [flatL_cons h3, flatL_cons h, flat_app (fun L hL => h L (List.mem_cons_of_mem _ hL)) h2, nestL_assoc]
def sameC : Lay → Lay → Bool
  | .con w _, .con v _ => decide (w = v)
  | _, _ => false
theorem NestV.swap {H0 G : Hp} {p t : Addr} {us : List V} {u : V} {A : List Lay} {B C : Lay} (h : NestV H0 G p (us ++ [u]) (A ++ [B])) (hx : LayAt G (.ref t) C) (ne : t ≠ p) (fr : H0 t = none) :
    NestV H0 (upd G p (.lst (us ++ [.ref t]))) p (us ++ [.ref t]) (A ++ [C]) := by
  obtain ⟨h1, h2, h3, h4⟩ := h
  have hl : us.length = A.length := by
    rw [List.length_append, List.length_append] at h2
    exact Nat.succ.inj h2
  refine ⟨upd_same, by rw [List.length_append, List.length_append, hl]; rfl, fun i v M a b => ?_, fun y hy => ?_⟩
  · by_cases hi : i < us.length
    · rw [List.getElem?_append_left hi] at a
      rw [List.getElem?_append_left (by omega)] at b
      exact (h3 i v M (by rw [List.getElem?_append_left hi]; exact a) (by rw [List.getElem?_append_left (by omega)]; exact b)).keep fun y e => (h4 y (List.mem_append_left _ (e ▸ List.mem_of_getElem? a))).1
    · rw [List.getElem?_append_right (by omega)] at a
      rw [List.getElem?_append_right (by omega), ← hl] at b
      generalize i - us.length = k at *
      cases k with
      | zero =>
        cases a
        cases b
        exact hx.keep fun y e => by cases e; exact ne
      | succ k => cases a
  · rcases List.mem_append.mp hy with z | z
    · exact h4 y (List.mem_append_left _ z)
    · have := List.mem_singleton.mp z
      cases this
      exact ⟨ne, fr⟩
theorem ixN_last {n : Nat} (h : 0 < n) : ixN n (-1) = some (n - 1) := by
  unfold ixN
  rw [if_neg (by decide)]
  first
    | (rw [if_pos (by omega)]; congr 1; omega)
    | (simp; omega)
theorem set_last {α : Type} (us : List α) (u x : α) : (us ++ [u]).set ((us ++ [u]).length - 1) x = us ++ [x] := by
  rw [List.length_append, List.length_singleton, Nat.add_sub_cancel, List.set_append_right _ _ (Nat.le_refl _), Nat.sub_self]
  rfl
end Rn

set_option Elab.async false
set_option linter.all false
set_option maxRecDepth 100000
set_option maxHeartbeats 4000000
namespace Rn
open PySem PySem.Spec PyProof.Rows L2
section
variable {X : Cx}
theorem op_isB : OpR X (compareOp .Is) (fun x y H Q => ∃ a b : Bool, x = .bl a ∧ y = .bl b ∧ Q (.bl (decide (a = b))) H) := by
  intro pins s σ H x y v u Q I rx ry h
  obtain ⟨a, b, rfl, rfl, q⟩ := h
  cases rx
  cases ry
  refine wpAny_is_plain rfl (fin_bl I q ?_)
  cases a <;> cases b <;> rfl
/-- o[lo:hi] = a list -/
def gSlc (to tl th : TE) : TG := fun v σ H Q => to σ H fun x H1 => tPart tl σ H1 fun l H2 => tPart th σ H2 fun u H3 => ∃ (a b : Addr) (xs ys : List V) (i j : Nat), x = .ref a ∧ v = .ref b ∧ l = some (i : Int) ∧ u = some (j : Int) ∧ H3 a = some (.lst xs) ∧ H3 b = some (.lst ys) ∧ a ≠ b ∧
  i ≤ j ∧ j ≤ xs.length ∧ xs.length + ys.length ≤ sizeLine ∧ Q σ (upd H3 a (.lst (xs.take i ++ ys ++ xs.drop j)))
theorem pg_slc {o lo hi : Expr} {to tl th : TE} {p2 pos : Pos} (ho : PE X o to) (hl : PE X lo tl) (hh : PE X hi th)
    (ha : ∀ v, assign (.Subscript o (.Slice (some lo) (some hi) none p2) pos) X.env v = (do
      let ov ← holding [v] (eval o X.env)
      let iv ← holding [v, ov] (eval (.Slice (some lo) (some hi) none p2) X.env)
      standAt pos
      holding [v, ov, iv] (setItem ov iv v)
      release [iv, v, ov] []) := by intro _; rfl) : PG X (.Subscript o (.Slice (some lo) (some hi) none p2) pos) (gSlc to tl th) := by
  refine ⟨fun pins s σ H v u Q I r h => ?_⟩
  rw [ha]
  refine wpAny_bind (wpAny_holding (thn (ho.run pins s σ H _ I h) fun ov s1 z1 => ?_))
  obtain ⟨x, H1, I1, r1, q1⟩ := z1
  refine wpAny_bind (wpAny_holding (wpAny_Slice (thn ((po_some hl).run pins s1 σ H1 _ I1 q1) fun vl s2 z2 => ?_)))
  obtain ⟨l, H2, I2, pl, q2⟩ := z2
  refine thn ((po_some hh).run pins s2 σ H2 _ I2 q2) fun vu s3 z3 => ?_
  obtain ⟨w, H3, I3, pu, q3⟩ := z3
  rw [evalPart_none]
  refine wpAny_pure ?_
  obtain ⟨a, b, xs, ys, i, j, rfl, rfl, rfl, rfl, hH, hB, hne, hij, hj, hz, q⟩ := q3
  have I4 : Inv X pins σ H3 { s3 with heap := s3.heap.push { cls := .type "slice", data := .fields #[vl, vu, .none] } } := I3.kept (t' := s3.toks) fun b ob q => Heap.get?_push_of_some _ q
  cases r1
  cases r
  cases pl with
  | int _ t1 =>
  cases pu with
  | int _ t2 =>
  refine wpAny_bind (wpAny_standAt (wpAny_bind (wpAny_holding (set_slice I4 hH hB hne (Heap.IsSliceOf.new ..) ⟨t1, rfl⟩ ⟨t2, rfl⟩ (by omega) (by omega) (by omega) hz fun s' I' => ?_))))
  exact wpAny_release ⟨σ, _, I', q⟩
end
theorem attOf_cons (L : Lay) (Ls : List Lay) : attOf (L :: Ls) = L.cnt * attOf Ls := by
  have key : ∀ (Ls : List Lay) (a : Int), Ls.foldl (fun a L => a * L.cnt) a = a * attOf Ls := by
    intro Ls
    induction Ls with
    | nil => intro a; show a = a * 1; omega
    | cons L Ls ih =>
      intro a
      have h1 := ih (a * L.cnt)
      have h2 := ih (1 * L.cnt)
      show Ls.foldl (fun a L => a * L.cnt) (a * L.cnt) = a * Ls.foldl (fun a L => a * L.cnt) (1 * L.cnt)
      rw [h1, h2, Int.one_mul, Int.mul_assoc]
  have := key Ls (1 * L.cnt)
  rw [Int.one_mul] at this
  show Ls.foldl (fun a L => a * L.cnt) (1 * L.cnt) = _
  rw [Int.one_mul]
  exact this
theorem attOf_app : ∀ (As Bs : List Lay), attOf (As ++ Bs) = attOf As * attOf Bs
  | [], Bs => by show attOf Bs = 1 * attOf Bs; omega
  | A :: As, Bs => by rw [List.cons_append, attOf_cons, attOf_cons, attOf_app As Bs, Int.mul_assoc]
theorem attOf_rev : ∀ (As : List Lay), attOf As.reverse = attOf As
  | [] => rfl
  | A :: As => by
    rw [List.reverse_cons, attOf_snoc, attOf_rev As, attOf_cons, Int.mul_comm]
def layB : Lay → Lay → Bool
  | .pol ns, .pol ms => decide (ns = ms)
  | .con w n, .con v m => decide (w = v) && decide (n = m)
  | _, _ => false
theorem layB_iff {L M : Lay} : layB L M = true ↔ L = M := by
  cases L with
  | pol ns =>
    cases M with
    | pol ms =>
      show decide (ns = ms) = true ↔ _
      rw [decide_eq_true_eq]
      exact ⟨fun z => by rw [z], fun z => by injection z⟩
    | con w n => exact ⟨fun z => (by cases z), fun z => (by cases z)⟩
  | con w n =>
    cases M with
    | pol ms => exact ⟨fun z => (by cases z), fun z => (by cases z)⟩
    | con v m =>
      show (decide (w = v) && decide (n = m)) = true ↔ _
      rw [Bool.and_eq_true, decide_eq_true_eq, decide_eq_true_eq]
      exact ⟨fun ⟨h1, h2⟩ => by rw [h1, h2], fun z => by injection z with a b; exact ⟨a, b⟩⟩
def laysB : List Lay → List Lay → Bool
  | [], [] => true
  | L :: Ls, M :: Ms => layB L M && laysB Ls Ms
  | _, _ => false
theorem laysB_iff : ∀ {Ls Ms : List Lay}, laysB Ls Ms = true ↔ Ls = Ms
  | [], [] => ⟨fun _ => rfl, fun _ => rfl⟩
  | [], _ :: _ => ⟨fun z => (by cases z), fun z => (by cases z)⟩
  | _ :: _, [] => ⟨fun z => (by cases z), fun z => (by cases z)⟩
  | L :: Ls, M :: Ms => by
    show (layB L M && laysB Ls Ms) = true ↔ _
    rw [Bool.and_eq_true, layB_iff, laysB_iff]
    exact ⟨fun ⟨h1, h2⟩ => by rw [h1, h2], fun z => by injection z with a b; exact ⟨a, b⟩⟩
theorem eqv_dat (L M : Lay) : PyData.eqv L.dat M.dat = layB L M := by
  cases L with
  | pol ns =>
    cases M with
    | pol ms =>
      show PyData.eqv (dInts ns) (dInts ms) = decide (ns = ms)
      exact eqv_ints ns ms
    | con w n =>
      show PyData.eqv (.list _) (.tuple _) = false
      simp [PyData.eqv]
  | con w n =>
    cases M with
    | pol ms =>
      show PyData.eqv (.tuple _) (.list _) = false
      simp [PyData.eqv]
    | con v m =>
      show PyData.eqv (.tuple [.int w, .int n]) (.tuple [.int v, .int m]) = (decide (w = v) && decide (n = m))
      simp only [PyData.eqv, PyData.eqvAll]
      by_cases h1 : w = v <;> by_cases h2 : n = m <;> simp [h1, h2]
theorem eqv_lays : ∀ (Ls Ms : List Lay), PyData.eqv (.list (Ls.map Lay.dat)) (.list (Ms.map Lay.dat)) = laysB Ls Ms := by
  have key : ∀ (Ls Ms : List Lay), PyData.eqvAll (Ls.map Lay.dat) (Ms.map Lay.dat) = laysB Ls Ms := by
    intro Ls
    induction Ls with
    | nil => intro Ms; cases Ms <;> simp [PyData.eqvAll, laysB]
    | cons L Ls ih =>
      intro Ms
      cases Ms with
      | nil => simp [PyData.eqvAll, laysB]
      | cons M Ms => simp only [List.map_cons, PyData.eqvAll, eqv_dat, ih Ms, laysB]
  intro Ls Ms
  simp only [PyData.eqv]
  exact key Ls Ms
theorem shaped_lays (Ls : List Lay) : SeqAt.shaped (.list (Ls.map Lay.dat)) = true := by
  have key : ∀ Ls : List Lay, PyData.canLayAll0 (Ls.map Lay.dat) = true ∧ PyData.depthAll (Ls.map Lay.dat) ≤ 2 := by
    intro Ls
    induction Ls with
    | nil => exact ⟨by simp [PyData.canLayAll0], by simp [PyData.depthAll]⟩
    | cons L Ls ih =>
      have h : L.dat.canLay0 = true ∧ L.dat.depth ≤ 2 := by
        cases L with
        | pol ns =>
          have := depth_ints ns
          exact ⟨by simp [Lay.dat, dInts, PyData.canLay0, canLay_ints ns], by simp only [Lay.dat, dInts, PyData.depth]; omega⟩
        | con w n => exact ⟨by simp [Lay.dat, PyData.canLay0, PyData.canLayAll0], by simp [Lay.dat, PyData.depth, PyData.depthAll]⟩
      refine ⟨by simp [PyData.canLayAll0, h.1, ih.1], ?_⟩
      simp only [List.map_cons, PyData.depthAll]
      omega
  obtain ⟨h1, h2⟩ := key Ls
  unfold SeqAt.shaped
  rw [Bool.and_eq_true]
  refine ⟨?_, decide_eq_true ?_⟩
  · simpa [PyData.canLay0] using h1
  · simp only [PyData.depth]
    omega
/-! ## layers beside their values -/
def LaysP (H : Hp) (ps : List (V × Lay)) : Prop := ∀ p ∈ ps, LayAt H p.1 p.2
theorem nest_pairs {H : Hp} {q : Addr} {Ls : List Lay} (h : NestAt H q Ls) : ∃ ps : List (V × Lay), H q = some (.lst (ps.map Prod.fst)) ∧ Ls = ps.map Prod.snd ∧ LaysP H ps := by
  obtain ⟨vs, h1, h2, h3⟩ := h
  refine ⟨vs.zip Ls, ?_, ?_, fun p hp => ?_⟩
  · rw [List.map_fst_zip (by omega)]
    exact h1
  · rw [List.map_snd_zip (by omega)]
  · obtain ⟨i, hi, e⟩ := List.getElem_of_mem hp
    rw [List.getElem_zip] at e
    subst e
    rw [List.length_zip] at hi
    exact h3 i _ _ (List.getElem?_eq_getElem (by omega)) (List.getElem?_eq_getElem (by omega))
theorem pairs_nest {H : Hp} {q : Addr} {ps : List (V × Lay)} (h : H q = some (.lst (ps.map Prod.fst))) (hp : LaysP H ps) : NestAt H q (ps.map Prod.snd) := by
  refine ⟨_, h, by rw [List.length_map, List.length_map], fun i v L a b => ?_⟩
  rw [List.getElem?_map] at a b
  cases e : ps[i]? with
  | none => rw [e] at a; cases a
  | some p =>
    rw [e] at a b
    cases a
    cases b
    exact hp p (List.mem_of_getElem? e)
theorem LaysP.same {H H' : Hp} {ps : List (V × Lay)} (h : LaysP H ps) (e : Same H H') : LaysP H' ps := fun p hp => (h p hp).same e
theorem LaysP.ne {H G : Hp} {a r : Addr} {ps : List (V × Lay)} (h : LaysP (hid a a H) ps) (f : H r = none) : ∀ p ∈ ps, ∀ x, p.1 = V.ref x → x ≠ r := fun p hp x e z => by
  have := h p hp
  have key : ∃ o, hid a a H x = some o := by
    revert this
    cases p.2 with
    | pol ns => intro ⟨y, h1, h2⟩; rw [e] at h1; cases h1; exact ⟨_, h2⟩
    | con w n => intro ⟨y, h1, h2⟩; rw [e] at h1; cases h1; exact ⟨_, h2⟩
  obtain ⟨o, ho⟩ := key
  have := (hid_get ho).1
  rw [z, f] at this
  cases this
theorem flat_one {ns : List Int} (h : (Lay.pol ns).ok = true) : flatL [.pol ns] = ns := by
  rw [flatL_cons fun L hL => by rw [List.mem_singleton.mp hL]; exact h]
  exact nestL_nil _
theorem flat_nn {Ls : List Lay} (h : ∀ L ∈ Ls, L.ok = true) : (Lay.pol (flatL Ls)).ok = true := by
  rw [Lay.ok_pol, List.all_eq_true]
  have key : ∀ Ls : List Lay, (∀ L ∈ Ls, L.ok = true) → ∀ x ∈ flatL Ls, 0 ≤ x := by
    intro Ls
    induction Ls with
    | nil => intro _ x hx; cases hx
    | cons L Ls ih =>
      intro h x hx
      rw [flatL_cons h] at hx
      rcases nestL_mem hx with z | z
      · have ho := h L List.mem_cons_self
        cases L with
        | pol ns =>
          rw [Lay.ok_pol, List.all_eq_true] at ho
          exact of_decide_eq_true (ho x z)
        | con w n =>
          rw [Lay.ok_con, Bool.and_eq_true] at ho
          rw [(List.mem_replicate.mp (show x ∈ List.replicate (n - 1).toNat w from z)).2]
          exact of_decide_eq_true ho.1
      · exact ih (fun M hM => h M (List.mem_cons_of_mem _ hM)) x z
  exact fun x hx => decide_eq_true (key Ls h x hx)
theorem nf_snoc {acc : List Lay} {L : Lay} (h : NF acc) (hL : L.nf) (hn : ∀ A w n v m, acc = A ++ [.con w n] → L = .con v m → w ≠ v) : NF (acc ++ [L]) := by
  rcases push_cases acc L with ⟨A, w, n, m, rfl, rfl, _⟩ | ⟨e, _⟩
  · exact absurd rfl (hn A w n w m rfl rfl)
  · rw [← e]
    exact (push_ok h hL).1
def Small (ps : List (V × Lay)) : Prop := ∀ x ∈ ps, x.2.cnt ≤ 29 ∧ ∀ w n, x.2 = .con w n → n ≤ 12
end Rn

set_option Elab.async false
set_option linter.all false
set_option maxRecDepth 100000
set_option maxHeartbeats 4000000
namespace Rn
open PySem PySem.Spec PyProof.Rows L2
/-! ## every policy has a normal form -/
theorem sm_exists (ws : List Int) (h0 : 0 < ws.length) : ∃ n, Sm ws n := by
  have key : ∀ m, 2 ≤ m → m ≤ ws.length + 1 → (∃ n, Sm ws n) ∨ ∀ j : Nat, 2 ≤ j → j < m → innB ws (j : Int) = false := by
    intro m
    induction m with
    | zero => intro h; omega
    | succ m ih =>
      intro h1 h2
      by_cases e : m < 2
      · exact .inr fun j a b => by omega
      · rcases ih (by omega) (by omega) with z | z
        · exact .inl z
        · cases q : innB ws (m : Int) with
          | true => exact .inl ⟨m, .inr ⟨by omega, by omega, q⟩, z⟩
          | false =>
            refine .inr fun j a b => ?_
            by_cases y : j = m
            · rw [y, q]
            · exact z j a (by omega)
  rcases key (ws.length + 1) (by omega) (Nat.le_refl _) with z | z
  · exact z
  · exact ⟨ws.length + 1, .inl rfl, z⟩
theorem parts_exist : ∀ (m : Nat) (ws : List Int), ws.length ≤ m → ∃ ls, Parts ws ls
  | 0, ws, h => by
    have : ws = [] := List.length_eq_zero_iff.mp (by omega)
    subst this
    exact ⟨[], .nil⟩
  | m + 1, ws, h => by
    by_cases h0 : 0 < ws.length
    · obtain ⟨n, hn⟩ := sm_exists ws h0
      obtain ⟨n2, hp⟩ := sm_per hn h0
      obtain ⟨q, hq⟩ := hp.2.1
      have q1 : 1 ≤ q := by
        rcases Nat.eq_zero_or_pos q with z | z
        · rw [z, Nat.mul_zero] at hq; omega
        · exact z
      have hl := high_len hp.1 q1 hq
      have hlt : (pks ws (n - 1) n).length ≤ m := by
        have : 2 * q ≤ n * q := Nat.mul_le_mul_right _ n2
        omega
      obtain ⟨ls, hls⟩ := parts_exist m _ hlt
      have lo := low_len hp
      by_cases c : Flat1 (blk ws n 0)
      · obtain ⟨w, hw⟩ := c
        rw [lo] at hw
        exact ⟨_, .con h0 hn hw hls⟩
      · exact ⟨_, .pol h0 hn c hls⟩
    · have : ws = [] := List.length_eq_zero_iff.mp (by omega)
      subst this
      exact ⟨[], .nil⟩
theorem nf_exists {ws : List Int} (h : ∀ x ∈ ws, 0 ≤ x) : ∃ ls, NF ls ∧ flatL ls = ws := by
  obtain ⟨ls, hls⟩ := parts_exist _ ws (Nat.le_refl _)
  obtain ⟨p1, p2⟩ := parts_ok hls h
  obtain ⟨m1, m2⟩ := merge_ok p1
  exact ⟨_, m1, m2.trans p2⟩
open Classical in
noncomputable def nfOf (ws : List Int) : List Lay := if h : ∃ ls, NF ls ∧ flatL ls = ws then h.choose else []
theorem nfOf_ok {ws : List Int} (h : ∀ x ∈ ws, 0 ≤ x) : NF (nfOf ws) ∧ flatL (nfOf ws) = ws := by
  have e := nf_exists h
  unfold nfOf
  rw [dif_pos e]
  exact e.choose_spec
theorem nfOf_eq {ws : List Int} {ls : List Lay} (h : ∀ x ∈ ws, 0 ≤ x) (n : NF ls) (e : flatL ls = ws) : nfOf ws = ls := by
  obtain ⟨a, b⟩ := nfOf_ok h
  exact nf_unique a n (b.trans e.symm)
/-! ## the normal form of a list of layers -/
theorem flat_pos : ∀ {Ls : List Lay}, (∀ L ∈ Ls, L.ok = true) → ∀ x ∈ flatL Ls, 0 ≤ x
  | [], _, x, hx => by cases hx
  | L :: Ls, h, x, hx => by
    rw [flatL_cons h] at hx
    rcases nestL_mem hx with z | z
    · have hL := h L List.mem_cons_self
      cases L with
      | pol ns =>
        rw [Lay.ok_pol, List.all_eq_true] at hL
        exact of_decide_eq_true (hL x z)
      | con w n =>
        have z' : x ∈ List.replicate (n - 1).toNat w := z
        rw [Lay.ok_con, Bool.and_eq_true] at hL
        rw [(List.mem_replicate.mp z').2]
        exact of_decide_eq_true hL.1
    · exact flat_pos (fun M hM => h M (List.mem_cons_of_mem _ hM)) x z
noncomputable def nfL (Ls : List Lay) : List Lay := nfOf (flatL Ls)
theorem nfL_ok {Ls : List Lay} (h : ∀ L ∈ Ls, L.ok = true) : NF (nfL Ls) ∧ flatL (nfL Ls) = flatL Ls := nfOf_ok (flat_pos h)
theorem nfL_is {Ls Ms : List Lay} (h : ∀ L ∈ Ls, L.ok = true) (n : NF Ms) (e : flatL Ms = flatL Ls) : nfL Ls = Ms := nfOf_eq (flat_pos h) n e
theorem nfL_nf {Ls : List Lay} (h : NF Ls) : nfL Ls = Ls := nfL_is h.oks h rfl
/-- nestings that the program can work with -/
structure Fit (Ls : List Lay) : Prop where
  ok : ∀ L ∈ Ls, L.ok = true
  few : Ls.length ≤ 20000
  small : (attOf Ls).natAbs < 2 ^ 9000
  short : ∀ ns, Lay.pol ns ∈ Ls → ns.length ≤ 20000
theorem nf_pow2 : ∀ {ls : List Lay}, (∀ L ∈ ls, L.nf) → 2 ^ ls.length ≤ (flatL ls).length + 1
  | [], _ => by show 2 ^ 0 ≤ 0 + 1; decide
  | L :: ls, h => by
    rw [flatL_cons fun M hM => (h M hM).ok, nestL_len, List.length_cons, Nat.pow_succ, Nat.mul_comm]
    have h1 := nf_pow2 fun M hM => h M (List.mem_cons_of_mem _ hM)
    have h2 : 2 ≤ L.waits.length + 1 := (h L List.mem_cons_self).sz
    exact Nat.mul_le_mul h2 h1
theorem Fit.nf {Ls : List Lay} (h : Fit Ls) : attOf (nfL Ls) = attOf Ls ∧ (nfL Ls).length < 9000 ∧ ∀ L ∈ nfL Ls, 1 ≤ L.cnt ∧ L.cnt.natAbs < 2 ^ 9000 := by
  obtain ⟨n, e⟩ := nfL_ok h.ok
  have e1 := flatL_len _ (nfL Ls) rfl n.oks
  have e2 := flatL_len _ Ls rfl h.ok
  rw [e] at e1
  have ea : attOf (nfL Ls) = attOf Ls := by omega
  refine ⟨ea, ?_, fun L hL => ?_⟩
  · have h1 := nf_pow2 n.1
    rw [e] at h1
    have h4 : 2 ^ (nfL Ls).length < 2 ^ 9000 := by
      have := h.small
      generalize 2 ^ 9000 = B at *
      generalize 2 ^ (nfL Ls).length = C at *
      omega
    exact (Nat.pow_lt_pow_iff_right (by decide)).mp h4
  · have c1 := LayAt.con_pos (n.oks L hL)
    have c2 := cnt_le n.oks hL
    have := h.small
    rw [ea] at c2
    exact ⟨c1, Nat.lt_of_le_of_lt (by omega) this⟩
end Rn

set_option Elab.async false
set_option linter.all false
set_option maxRecDepth 100000
set_option maxHeartbeats 4000000
namespace Rn
open PySem PySem.Spec PyProof.Rows L2
/-! # normal forms put together and taken apart -/
/-- two lists of layers one after the other, the layers at the seam joined -/
def joinL (ps xs : List Lay) : List Lay :=
  match ps.getLast?, xs with
  | some (.con w n), .con v m :: r => if w = v then ps.dropLast ++ .con w (n * m) :: r else ps ++ xs
  | _, _ => ps ++ xs
def Seam (ps xs : List Lay) : Prop := ∃ A w n m B, ps = A ++ [Lay.con w n] ∧ xs = Lay.con w m :: B
theorem join_seam (A : List Lay) (w n m : Int) (B : List Lay) : joinL (A ++ [.con w n]) (.con w m :: B) = A ++ .con w (n * m) :: B := by
  unfold joinL
  rw [List.getLast?_append, List.getLast?_singleton, Option.some_or]
  show (if w = w then _ else _) = _
  rw [if_pos rfl, List.dropLast_concat]
theorem join_plain {ps xs : List Lay} (h : ¬ Seam ps xs) : joinL ps xs = ps ++ xs := by
  rcases List.eq_nil_or_concat ps with e | ⟨A, p, e⟩
  · subst e
    rfl
  · rw [List.concat_eq_append] at e
    subst e
    unfold joinL
    rw [List.getLast?_append, List.getLast?_singleton, Option.some_or]
    cases p with
    | pol ns => rfl
    | con w n =>
      cases xs with
      | nil => rfl
      | cons x r =>
        cases x with
        | pol ms => rfl
        | con v m =>
          show (if w = v then _ else _) = _
          rw [if_neg fun z => h ⟨A, w, n, m, r, rfl, by rw [z]⟩]
theorem join_or (ps xs : List Lay) : (∃ A w n m B, ps = A ++ [Lay.con w n] ∧ xs = Lay.con w m :: B ∧ joinL ps xs = A ++ .con w (n * m) :: B) ∨ (¬ Seam ps xs ∧ joinL ps xs = ps ++ xs) := by
  by_cases h : Seam ps xs
  · obtain ⟨A, w, n, m, B, rfl, rfl⟩ := h
    exact .inl ⟨A, w, n, m, B, rfl, rfl, join_seam A w n m B⟩
  · exact .inr ⟨h, join_plain h⟩
theorem join_nil (ps : List Lay) : joinL ps [] = ps := by
  rw [join_plain, List.append_nil]
  rintro ⟨A, w, n, m, B, _, e⟩
  cases e
theorem nil_join (xs : List Lay) : joinL [] xs = xs := rfl
/-! parts of a normal form -/
theorem NF.app {As Bs : List Lay} (h : NF (As ++ Bs)) : NF As ∧ NF Bs ∧ ¬ Seam As Bs := by
  refine ⟨⟨fun L hL => h.1 L (List.mem_append_left _ hL), fun i w n w' m a b => ?_⟩, ⟨fun L hL => h.1 L (List.mem_append_right _ hL), fun i w n w' m a b => ?_⟩, ?_⟩
  · have h1 := (List.getElem?_eq_some_iff.mp a).1
    have h2 := (List.getElem?_eq_some_iff.mp b).1
    exact h.2 i w n w' m (by rw [List.getElem?_append_left h1]; exact a) (by rw [List.getElem?_append_left h2]; exact b)
  · refine h.2 (As.length + i) w n w' m ?_ ?_
    · rw [List.getElem?_append_right (by omega), Nat.add_sub_cancel_left]
      exact a
    · rw [show As.length + i + 1 = As.length + (i + 1) by omega, List.getElem?_append_right (by omega), Nat.add_sub_cancel_left]
      exact b
  · rintro ⟨A, w, n, m, B, rfl, rfl⟩
    refine h.2 A.length w n w m ?_ ?_ rfl
    · rw [List.append_assoc, List.getElem?_append_right (Nat.le_refl _), Nat.sub_self]
      rfl
    · rw [List.append_assoc, List.getElem?_append_right (by omega), show A.length + 1 - A.length = 1 by omega]
      rfl
theorem nf_app {As Bs : List Lay} (ha : NF As) (hb : NF Bs) (h : ¬ Seam As Bs) : NF (As ++ Bs) := by
  refine ⟨fun L hL => ?_, fun i w n w' m a b => ?_⟩
  · rcases List.mem_append.mp hL with z | z
    · exact ha.1 L z
    · exact hb.1 L z
  · by_cases h1 : i + 1 < As.length
    · rw [List.getElem?_append_left (by omega)] at a
      rw [List.getElem?_append_left h1] at b
      exact ha.2 i w n w' m a b
    · by_cases h2 : i < As.length
      · intro e
        subst e
        rw [List.getElem?_append_left h2] at a
        rw [List.getElem?_append_right (by omega), show i + 1 - As.length = 0 by omega] at b
        apply h
        cases Bs with
        | nil => cases b
        | cons x r =>
          have eb : x = .con w m := Option.some.inj b
          subst eb
          have hne : As ≠ [] := fun z => by rw [z] at h2; cases h2
          refine ⟨As.dropLast, w, n, m, r, ?_, rfl⟩
          have h3 := (List.dropLast_concat_getLast hne).symm
          have h4 : As.getLast hne = .con w n := by
            have h5 : As[As.length - 1]? = some (As.getLast hne) := by rw [← List.getLast?_eq_getElem?, List.getLast?_eq_some_getLast hne]
            rw [show As.length - 1 = i by omega, a] at h5
            exact (Option.some.inj h5).symm
          rw [h4] at h3
          exact h3
      · rw [List.getElem?_append_right (by omega)] at a b
        rw [show i + 1 - As.length = (i - As.length) + 1 by omega] at b
        exact hb.2 _ w n w' m a b
theorem NF.rev {ls : List Lay} (h : NF ls) : NF ls.reverse := by
  refine ⟨fun L hL => h.1 L (List.mem_reverse.mp hL), fun i w n w' m a b e => ?_⟩
  have h2 := (List.getElem?_eq_some_iff.mp b).1
  rw [List.length_reverse] at h2
  rw [List.getElem?_reverse (by omega)] at a
  rw [List.getElem?_reverse (by omega)] at b
  exact h.2 (ls.length - 1 - (i + 1)) w' m w n b (by rw [show ls.length - 1 - (i + 1) + 1 = ls.length - 1 - i by omega]; exact a) e.symm
theorem nf_one {L : Lay} (h : L.nf) : NF [L] := ⟨fun M hM => by rw [List.mem_singleton.mp hM]; exact h, fun i w n w' m a b => by cases b⟩
theorem nf_nil : NF [] := ⟨(fun _ z => nomatch z), fun i w n w' m a => by cases a⟩
/-! the join of normal forms -/
theorem join_ok {ps xs : List Lay} (hp : NF ps) (hx : NF xs) : NF (joinL ps xs) ∧ flatL (joinL ps xs) = nestL (flatL ps) (flatL xs) := by
  rcases join_or ps xs with ⟨A, w, n, m, B, rfl, rfl, e⟩ | ⟨h, e⟩
  · rw [e]
    have hn := hp.1 (.con w n) (List.mem_append_right _ List.mem_cons_self)
    have hm := hx.1 (.con w m) List.mem_cons_self
    have n2 : 2 ≤ n := hn.2
    have m2 : 2 ≤ m := hm.2
    have nm : 2 * 2 ≤ n * m := Int.mul_le_mul n2 m2 (by decide) (by omega)
    have g : (Lay.con w (n * m)).nf := ⟨hn.1, by omega⟩
    obtain ⟨hA, _, sA⟩ := hp.app
    have hB : NF ([.con w m] ++ B) := hx
    obtain ⟨_, hB1, sB⟩ := hB.app
    have s1 : ¬ Seam [Lay.con w (n * m)] B := fun ⟨A', w', n', m', B', e1, e2⟩ => by
      have := (List.append_inj' (s₁ := []) e1 rfl).2
      cases this
      exact sB ⟨[], w, m, m', B', rfl, e2⟩
    have t1 : NF (.con w (n * m) :: B) := nf_app (nf_one g) hB1 s1
    have s2 : ¬ Seam A (.con w (n * m) :: B) := fun ⟨A', w', n', m', B', e1, e2⟩ => by
      cases e2
      exact sA ⟨A', w, n', n, [], e1, rfl⟩
    refine ⟨nf_app hA t1 s2, ?_⟩
    rw [flat_app hA.oks t1.oks, flatL_cons t1.oks, flat_app hA.oks (fun L hL => hp.oks L (List.mem_append_right _ hL)), flatL_cons hx.oks, nestL_assoc, ← nestL_assoc (flatL [.con w n])]
    congr 2
    rw [flatL_cons fun L hL => by rw [List.mem_singleton.mp hL]; exact hn.ok]
    show List.replicate (n * m - 1).toNat w = nestL (nestL (List.replicate (n - 1).toNat w) []) (List.replicate (m - 1).toNat w)
    rw [nestL_nil, nest_rep, show (n - 1).toNat + 1 = n.toNat by omega, show (m - 1).toNat + 1 = m.toNat by omega, ← Int.toNat_mul (by omega) (by omega)]
    congr 1
    omega
  · rw [e]
    have t := nf_app hp hx h
    exact ⟨t, flat_app hp.oks hx.oks⟩
theorem join_of {ls ps xs : List Lay} (hl : NF ls) (hp : NF ps) (hx : NF xs) (e : nestL (flatL ps) (flatL xs) = flatL ls) : joinL ps xs = ls := by
  obtain ⟨a, b⟩ := join_ok hp hx
  exact nf_unique a hl (b.trans e)
theorem join_assoc {ps xs ys : List Lay} (hp : NF ps) (hx : NF xs) (hy : NF ys) : joinL (joinL ps xs) ys = joinL ps (joinL xs ys) := by
  obtain ⟨a1, a2⟩ := join_ok hp hx
  obtain ⟨b1, b2⟩ := join_ok a1 hy
  obtain ⟨c1, c2⟩ := join_ok hx hy
  obtain ⟨d1, d2⟩ := join_ok hp c1
  exact nf_unique b1 d1 (by rw [b2, d2, a2, c2, nestL_assoc])
theorem merge_join {ps xs : List Lay} (hp : NF ps) (hx : NF xs) : mergeL (ps ++ xs) = joinL ps xs := by
  obtain ⟨a1, a2⟩ := join_ok hp hx
  obtain ⟨b1, b2⟩ := merge_ok (ls := ps ++ xs) fun L hL => (List.mem_append.mp hL).elim (hp.1 L) (hx.1 L)
  exact nf_unique b1 a1 (by rw [b2, a2, flat_app hp.oks hx.oks])
theorem merge_nf {ls : List Lay} (h : NF ls) : mergeL ls = ls := by
  obtain ⟨b1, b2⟩ := merge_ok h.1
  exact nf_unique b1 h b2
theorem seam_rev {ps xs : List Lay} : Seam xs.reverse ps.reverse ↔ Seam ps xs := by
  constructor
  · rintro ⟨A, w, n, m, B, e1, e2⟩
    refine ⟨B.reverse, w, m, n, A.reverse, ?_, ?_⟩
    · have := congrArg List.reverse e2
      rw [List.reverse_reverse, List.reverse_cons] at this
      exact this
    · have := congrArg List.reverse e1
      rw [List.reverse_reverse, List.reverse_append] at this
      exact this
  · rintro ⟨A, w, n, m, B, rfl, rfl⟩
    exact ⟨B.reverse, w, m, n, A.reverse, by rw [List.reverse_cons], by rw [List.reverse_append]; rfl⟩
theorem join_rev (ps xs : List Lay) : (joinL ps xs).reverse = joinL xs.reverse ps.reverse := by
  rcases join_or ps xs with ⟨A, w, n, m, B, rfl, rfl, e⟩ | ⟨h, e⟩
  · rw [e, List.reverse_append, List.reverse_cons, List.reverse_cons, List.reverse_append]
    have := join_seam B.reverse w m n A.reverse
    show _ = joinL (B.reverse ++ [.con w m]) ([Lay.con w n].reverse ++ A.reverse)
    rw [show [Lay.con w n].reverse ++ A.reverse = .con w n :: A.reverse from rfl, this, Int.mul_comm m n, List.append_assoc]
    rfl
  · rw [e, join_plain fun z => h (seam_rev.mp z), List.reverse_append]
/-! ## what is left of a normal form without its first part -/
/-- of one layer -/
def woL (l p : Lay) : Option (List Lay) :=
  if layB l p = true then some [] else match l, p with
    | .con w n, .con v m => if w = v ∧ n % m = 0 then some [.con w (n / m)] else none
    | _, _ => none
def woS (ls ps : List Lay) : Option (List Lay) :=
  if ps = [] then some ls
  else match ls[ps.length - 1]?, ps[ps.length - 1]? with
    | some l, some p => if laysB (ls.take (ps.length - 1)) (ps.take (ps.length - 1)) = true then (woL l p).map fun left => left ++ ls.drop ps.length else none
    | _, _ => none
theorem layB_refl (L : Lay) : layB L L = true := layB_iff.mpr rfl
theorem laysB_refl (Ls : List Lay) : laysB Ls Ls = true := laysB_iff.mpr rfl
theorem woS_snoc (A : List Lay) (p l : Lay) (B : List Lay) : woS (A ++ l :: B) (A ++ [p]) = (woL l p).map fun left => left ++ B := by
  unfold woS
  rw [if_neg (by simp), List.length_append, List.length_singleton, Nat.add_sub_cancel]
  rw [List.getElem?_append_right (Nat.le_refl _), Nat.sub_self, List.getElem?_append_right (Nat.le_refl _), Nat.sub_self]
  show (if laysB ((A ++ l :: B).take A.length) ((A ++ [p]).take A.length) = true then _ else _) = _
  rw [List.take_left, List.take_left, if_pos (laysB_refl A)]
  congr 1
  funext left
  congr 1
  rw [List.drop_append, List.drop_of_length_le (by omega), show A.length + 1 - A.length = 1 by omega]
  rfl
/-- what was joined comes apart -/
theorem woS_join {ps xs : List Lay} (hp : NF ps) (hx : NF xs) : woS (joinL ps xs) ps = some xs := by
  rcases join_or ps xs with ⟨A, w, n, m, B, rfl, rfl, e⟩ | ⟨h, e⟩
  · rw [e, woS_snoc]
    have n2 : 2 ≤ n := (hp.1 (.con w n) (List.mem_append_right _ List.mem_cons_self)).2
    have m2 : 2 ≤ m := (hx.1 (.con w m) List.mem_cons_self).2
    unfold woL
    rw [if_neg fun z => ?_]
    · show Option.map _ (if w = w ∧ n * m % n = 0 then some [Lay.con w (n * m / n)] else none) = _
      rw [if_pos ⟨rfl, Int.mul_emod_right n m⟩, Int.mul_ediv_cancel_left m (by omega)]
      rfl
    · have := layB_iff.mp z
      injection this with _ this
      have h3 : n * 2 ≤ n * m := Int.mul_le_mul_of_nonneg_left m2 (by omega)
      omega
  · rw [e]
    rcases List.eq_nil_or_concat ps with e2 | ⟨A, p, e2⟩
    · subst e2
      rfl
    · rw [List.concat_eq_append] at e2
      subst e2
      rw [List.append_assoc]
      show woS (A ++ p :: xs) (A ++ [p]) = _
      rw [woS_snoc]
      unfold woL
      rw [if_pos (layB_refl p)]
      rfl
/-- what is taken apart was joined -/
theorem woS_some {ls ps xs : List Lay} (hl : NF ls) (hp : NF ps) (h : woS ls ps = some xs) : NF xs ∧ joinL ps xs = ls := by
  rcases List.eq_nil_or_concat ps with e2 | ⟨A, p, e2⟩
  · subst e2
    have : some ls = some xs := h
    cases this
    exact ⟨hl, rfl⟩
  · rw [List.concat_eq_append] at e2
    subst e2
    have hlen : (A ++ [p]).length - 1 = A.length := by rw [List.length_append, List.length_singleton]; omega
    cases el : ls[A.length]? with
    | none =>
      unfold woS at h
      rw [if_neg (by simp), hlen, el] at h
      cases h
    | some l =>
      have hA : A.length < ls.length := (List.getElem?_eq_some_iff.mp el).1
      have e0 : ls = ls.take A.length ++ l :: ls.drop (A.length + 1) := by
        have h1 := (List.take_append_drop A.length ls).symm
        rw [List.drop_eq_getElem_cons hA] at h1
        have h2 := (List.getElem?_eq_some_iff.mp el).2
        rw [h2] at h1
        exact h1
      have hh := h
      unfold woS at hh
      rw [if_neg (by simp), hlen, el, List.getElem?_append_right (Nat.le_refl _), Nat.sub_self] at hh
      have hh : (if laysB (ls.take A.length) ((A ++ [p]).take A.length) = true then _ else _) = some xs := hh
      rw [List.take_left] at hh
      by_cases eA : ls.take A.length = A
      · rw [eA] at e0
        rw [e0, woS_snoc] at h
        rw [e0] at hl ⊢
        generalize ls.drop (A.length + 1) = B at *
        obtain ⟨nA, nlB, sA⟩ := hl.app
        have nlB' : NF ([l] ++ B) := nlB
        obtain ⟨nl, nB, sB⟩ := nlB'.app
        cases hw : woL l p with
        | none => rw [hw] at h; cases h
        | some left =>
          rw [hw] at h
          have ex : left ++ B = xs := Option.some.inj h
          subst ex
          unfold woL at hw
          by_cases c : layB l p = true
          · rw [if_pos c] at hw
            cases hw
            have := layB_iff.mp c
            subst this
            refine ⟨nB, ?_⟩
            show joinL (A ++ [l]) B = A ++ l :: B
            rw [join_plain, List.append_assoc]
            · rfl
            · rintro ⟨A', w, n, m, B', e1, e2⟩
              obtain ⟨q1, q2⟩ := List.append_inj' e1 rfl
              cases q2
              exact sB ⟨[], w, n, m, B', rfl, e2⟩
          · rw [if_neg c] at hw
            cases l with
            | pol ns => cases p <;> cases hw
            | con w n =>
              cases p with
              | pol ms => cases hw
              | con v m =>
                have hw : (if w = v ∧ n % m = 0 then some [Lay.con w (n / m)] else none) = some left := hw
                by_cases cc : w = v ∧ n % m = 0
                · rw [if_pos cc] at hw
                  cases hw
                  obtain ⟨rfl, cd⟩ := cc
                  have hn := nl.1 _ List.mem_cons_self
                  have hm := hp.1 (.con w m) (List.mem_append_right _ List.mem_cons_self)
                  have n2 : 2 ≤ n := hn.2
                  have m2 : 2 ≤ m := hm.2
                  have em : m * (n / m) = n := Int.mul_ediv_cancel' (Int.dvd_of_emod_eq_zero cd)
                  have nm : n ≠ m := fun z => c (layB_iff.mpr (by rw [z]))
                  have q2 : 2 ≤ n / m := by
                    rcases Int.lt_or_le (n / m) 2 with z | z
                    · exfalso
                      have : n / m ≤ 0 ∨ n / m = 1 := by omega
                      rcases this with y | y
                      · have : m * (n / m) ≤ m * 0 := Int.mul_le_mul_of_nonneg_left y (by omega)
                        omega
                      · rw [y, Int.mul_one] at em
                        exact nm em.symm
                    · exact z
                  have sq : ¬ Seam [Lay.con w (n / m)] B := fun ⟨A', w', n', m', B', e1, e2⟩ => by
                    have := (List.append_inj' (s₁ := []) e1 rfl).2
                    cases this
                    exact sB ⟨[], w, n, m', B', rfl, e2⟩
                  refine ⟨nf_app (nf_one ⟨hn.1, q2⟩) nB sq, ?_⟩
                  show joinL (A ++ [.con w m]) (.con w (n / m) :: B) = _
                  rw [join_seam, em]
                · rw [if_neg cc] at hw
                  cases hw
      · rw [if_neg fun z => eA (laysB_iff.mp z)] at hh
        cases hh
/-! ## lists of layers cut and put together -/
/-- the layers us of Ls, at any place -/
def Lays (G : Hp) (us : List V) (Ls : List Lay) : Prop := us.length = Ls.length ∧ ∀ (i : Nat) v L, us[i]? = some v → Ls[i]? = some L → LayAt G v L
theorem NestV.lays {H0 G : Hp} {p : Addr} {us : List V} {Ls : List Lay} (h : NestV H0 G p us Ls) : Lays G us Ls := ⟨h.2.1, h.2.2.1⟩
theorem Lays.same {G G' : Hp} {us : List V} {Ls : List Lay} (h : Lays G us Ls) (e : Same G G') : Lays G' us Ls := ⟨h.1, fun i v L a b => (h.2 i v L a b).same e⟩
theorem Lays.nest {G : Hp} {p : Addr} {us : List V} {Ls : List Lay} (h : Lays G us Ls) (hp : G p = some (.lst us)) : NestAt G p Ls := ⟨us, hp, h.1, h.2⟩
theorem Lays.take {G : Hp} {us : List V} {Ls : List Lay} (h : Lays G us Ls) (n : Nat) : Lays G (us.take n) (Ls.take n) := by
  refine ⟨by rw [List.length_take, List.length_take, h.1], fun i v L a b => ?_⟩
  rw [List.getElem?_take] at a b
  by_cases c : i < n
  · rw [if_pos c] at a b
    exact h.2 i v L a b
  · rw [if_neg c] at a
    cases a
theorem Lays.drop {G : Hp} {us : List V} {Ls : List Lay} (h : Lays G us Ls) (n : Nat) : Lays G (us.drop n) (Ls.drop n) := by
  refine ⟨by rw [List.length_drop, List.length_drop, h.1], fun i v L a b => ?_⟩
  rw [List.getElem?_drop] at a b
  exact h.2 _ v L a b
theorem Lays.rev {G : Hp} {us : List V} {Ls : List Lay} (h : Lays G us Ls) : Lays G us.reverse Ls.reverse := by
  refine ⟨by rw [List.length_reverse, List.length_reverse, h.1], fun i v L a b => ?_⟩
  have h1 := (List.getElem?_eq_some_iff.mp a).1
  have h2 := (List.getElem?_eq_some_iff.mp b).1
  rw [List.length_reverse] at h1 h2
  rw [List.getElem?_reverse h1] at a
  rw [List.getElem?_reverse h2] at b
  rw [h.1] at a
  exact h.2 _ v L a b
theorem Lays.app {G : Hp} {us vs : List V} {Ls Ms : List Lay} (h : Lays G us Ls) (h2 : Lays G vs Ms) : Lays G (us ++ vs) (Ls ++ Ms) := by
  refine ⟨by rw [List.length_append, List.length_append, h.1, h2.1], fun i v L a b => ?_⟩
  by_cases c : i < us.length
  · rw [List.getElem?_append_left c] at a
    rw [List.getElem?_append_left (by rw [← h.1]; exact c)] at b
    exact h.2 i v L a b
  · rw [List.getElem?_append_right (by omega)] at a
    rw [List.getElem?_append_right (by rw [← h.1]; omega), ← h.1] at b
    exact h2.2 _ v L a b
theorem Lays.get {G : Hp} {us : List V} {Ls : List Lay} (h : Lays G us Ls) {i : Nat} {L : Lay} (hi : Ls[i]? = some L) : ∃ v, us[i]? = some v ∧ LayAt G v L := by
  have h1 := (List.getElem?_eq_some_iff.mp hi).1
  rw [← h.1] at h1
  exact ⟨us[i], List.getElem?_eq_getElem h1, h.2 i _ L (List.getElem?_eq_getElem h1) hi⟩
theorem Lays.ref {G : Hp} {us : List V} {Ls : List Lay} (h : Lays G us Ls) {v : V} (hv : v ∈ us) : ∃ x o, v = .ref x ∧ G x = some o := by
  obtain ⟨i, hi, e⟩ := List.getElem_of_mem hv
  have h1 : i < Ls.length := by rw [← h.1]; exact hi
  have := h.2 i v Ls[i] (by rw [List.getElem?_eq_getElem hi, e]) (List.getElem?_eq_getElem h1)
  generalize Ls[i] = L at this
  cases L with
  | pol ns => obtain ⟨x, e1, e2⟩ := this; exact ⟨x, _, e1, e2⟩
  | con w n => obtain ⟨x, e1, e2⟩ := this; exact ⟨x, _, e1, e2⟩
/-- elements that are new since H0 -/
def New0 (H0 : Hp) (us : List V) : Prop := ∀ x, V.ref x ∈ us → H0 x = none
theorem NestV.new0 {H0 G : Hp} {p : Addr} {us : List V} {Ls : List Lay} (h : NestV H0 G p us Ls) : New0 H0 us := fun x hx => (h.2.2.2 x hx).2
/-- a list of such layers at a new place -/
theorem nestV_new {H0 G : Hp} {r : Addr} {us : List V} {Ls : List Lay} (h : Lays G us Ls) (n : New0 H0 us) (hr : G r = none) : NestV H0 (upd G r (.lst us)) r us Ls := by
  refine ⟨upd_same, h.1, fun i v L a b => ?_, fun x hx => ⟨fun z => ?_, n x hx⟩⟩
  · exact (h.2 i v L a b).same (same_new hr)
  · obtain ⟨y, o, e1, e2⟩ := h.ref hx
    cases e1
    rw [z, hr] at e2
    cases e2
theorem New0.sub {H0 : Hp} {us vs : List V} (h : New0 H0 us) (e : ∀ v ∈ vs, v ∈ us) : New0 H0 vs := fun x hx => h x (e _ hx)
theorem New0.app {H0 : Hp} {us vs : List V} (h : New0 H0 us) (h2 : New0 H0 vs) : New0 H0 (us ++ vs) := fun x hx => (List.mem_append.mp hx).elim (h x) (h2 x)
/-- what is new since H and what stood in H have nothing in common -/
theorem nodup_new {G : Hp} {us vs : List V} {Ls : List Lay} (h : Lays G vs Ls) (n : New0 G us) (hu : us.Nodup) (hv : vs.Nodup) : (us ++ vs).Nodup := by
  rw [List.nodup_append]
  refine ⟨hu, hv, fun x hx y hy e => ?_⟩
  subst e
  obtain ⟨z, o, e1, e2⟩ := h.ref hy
  subst e1
  rw [n z hx] at e2
  cases e2
/-! ## the common inner part -/
def gcdZ (n m : Int) : Int := ((Nat.gcd n.natAbs m.natAbs : Nat) : Int)
theorem gcdZ_comm (n m : Int) : gcdZ n m = gcdZ m n := by unfold gcdZ; rw [Nat.gcd_comm]
theorem gcdZ_dvd {n m : Int} (h : 2 ≤ n) : gcdZ n m ∣ n ∧ gcdZ n m ∣ m ∧ 1 ≤ gcdZ n m := by
  unfold gcdZ
  refine ⟨Int.natAbs_dvd_natAbs.mp (by rw [Int.natAbs_natCast]; exact Nat.gcd_dvd_left _ _), Int.natAbs_dvd_natAbs.mp (by rw [Int.natAbs_natCast]; exact Nat.gcd_dvd_right _ _), ?_⟩
  have := Nat.gcd_pos_of_pos_left m.natAbs (show 0 < n.natAbs by omega)
  omega
def ciO (L M : Lay) : List Lay :=
  if layB L M = true then [L] else match L, M with
    | .con w n, .con v m => if w = v ∧ 1 < gcdZ n m then [.con w (gcdZ n m)] else []
    | _, _ => []
def ciL : List Lay → List Lay → List Lay
  | l :: ls, m :: ms => if layB l m = true then l :: ciL ls ms else ciO l m
  | _, _ => []
theorem ciL_nil_r (ls : List Lay) : ciL ls [] = [] := by cases ls <;> rfl
theorem layB_comm (L M : Lay) : layB L M = layB M L := by
  rw [Bool.eq_iff_iff, layB_iff, layB_iff]
  exact ⟨Eq.symm, Eq.symm⟩
theorem ciO_comm (L M : Lay) : ciO L M = ciO M L := by
  unfold ciO
  by_cases c : layB L M = true
  · have e := layB_iff.mp c
    subst e
    rfl
  · rw [if_neg c, if_neg (by rw [layB_comm]; exact c)]
    cases L with
    | pol ns => cases M <;> rfl
    | con w n =>
      cases M with
      | pol ms => rfl
      | con v m =>
        show (if w = v ∧ 1 < gcdZ n m then [Lay.con w (gcdZ n m)] else []) = if v = w ∧ 1 < gcdZ m n then [Lay.con v (gcdZ m n)] else []
        rw [gcdZ_comm m n]
        by_cases e : w = v
        · subst e
          rfl
        · rw [if_neg fun z => e z.1, if_neg fun z => e z.1.symm]
theorem ciL_comm : ∀ ls ms : List Lay, ciL ls ms = ciL ms ls
  | [], ms => by cases ms <;> rfl
  | l :: ls, [] => rfl
  | l :: ls, m :: ms => by
    unfold ciL
    by_cases c : layB l m = true
    · have e := layB_iff.mp c
      subst e
      rw [if_pos c, if_pos c, ciL_comm ls ms]
    · rw [if_neg c, if_neg (by rw [layB_comm]; exact c), ciO_comm]
theorem join_cons {l : Lay} {c xs : List Lay} (h : c ≠ []) : joinL (l :: c) xs = l :: joinL c xs := by
  rcases join_or c xs with ⟨A, w, n, m, B, rfl, rfl, e⟩ | ⟨hs, e⟩
  · rw [e]
    exact join_seam (l :: A) w n m B
  · rw [e, join_plain]
    · rfl
    · rintro ⟨A, w, n, m, B, e1, e2⟩
      cases A with
      | nil =>
        injection e1 with _ e1
        exact h e1
      | cons a A =>
        injection e1 with _ e1
        exact hs ⟨A, w, n, m, B, e1, e2⟩
theorem join_one {l : Lay} {xs : List Lay} (h : NF (l :: xs)) : joinL [l] xs = l :: xs := by
  have h' : NF ([l] ++ xs) := h
  rw [join_plain h'.app.2.2]
  rfl
theorem con_split {w n g : Int} {r : List Lay} (h : NF (.con w n :: r)) (hg : g ∣ n) (g2 : 2 ≤ g) : ∃ xs, NF xs ∧ joinL [.con w g] xs = .con w n :: r := by
  obtain ⟨q, rfl⟩ := hg
  have hn := h.1 _ List.mem_cons_self
  have n2 : 2 ≤ g * q := hn.2
  have q1 : 1 ≤ q := by
    rcases Int.lt_or_le q 1 with z | z
    · have : g * q ≤ g * 0 := Int.mul_le_mul_of_nonneg_left (by omega) (by omega)
      omega
    · exact z
  have h' : NF ([.con w (g * q)] ++ r) := h
  obtain ⟨_, nr, sr⟩ := h'.app
  by_cases e : q = 1
  · subst e
    rw [Int.mul_one] at h ⊢
    exact ⟨r, nr, join_one h⟩
  · have sq : ¬ Seam [Lay.con w q] r := fun ⟨A', w', n', m', B', e1, e2⟩ => by
      have := (List.append_inj' (s₁ := []) e1 rfl).2
      cases this
      exact sr ⟨[], w, g * q, m', B', rfl, e2⟩
    exact ⟨.con w q :: r, nf_app (nf_one (L := .con w q) ⟨hn.1, by omega⟩) nr sq, join_seam [] w g q r⟩
theorem ciO_cases {L M : Lay} (h : layB L M ≠ true) : ciO L M = [] ∨ ∃ w n m, L = .con w n ∧ M = .con w m ∧ 1 < gcdZ n m ∧ ciO L M = [.con w (gcdZ n m)] := by
  unfold ciO
  rw [if_neg h]
  cases L with
  | pol ns => cases M <;> exact .inl rfl
  | con w n =>
    cases M with
    | pol ms => exact .inl rfl
    | con v m =>
      show (if w = v ∧ 1 < gcdZ n m then [Lay.con w (gcdZ n m)] else []) = [] ∨ _
      by_cases c : w = v ∧ 1 < gcdZ n m
      · obtain ⟨rfl, c2⟩ := c
        exact .inr ⟨w, n, m, rfl, rfl, c2, if_pos ⟨rfl, c2⟩⟩
      · exact .inl (if_neg c)
/-- the head of the common part is as the head of the first -/
theorem ciL_seam {l : Lay} : ∀ {ls ms : List Lay}, Seam [l] (ciL ls ms) → Seam [l] ls
  | [], ms, h => by
    have : ciL [] ms = [] := by cases ms <;> rfl
    rw [this] at h
    exact h
  | x :: ls, [], h => by
    obtain ⟨A, w, n, m, B, e1, e2⟩ := h
    cases e2
  | x :: ls, y :: ms, h => by
    obtain ⟨A, w, n, m, B, e1, e2⟩ := h
    unfold ciL at e2
    by_cases c : layB x y = true
    · rw [if_pos c] at e2
      injection e2 with e2 _
      exact ⟨A, w, n, m, ls, e1, by rw [e2]⟩
    · rw [if_neg c] at e2
      rcases ciO_cases c with z | ⟨w', n', m', rfl, rfl, _, z⟩
      · rw [z] at e2; cases e2
      · rw [z] at e2
        cases e2
        exact ⟨A, _, _, _, ls, e1, rfl⟩
theorem ciL_nf : ∀ {ls ms : List Lay}, NF ls → NF (ciL ls ms)
  | [], ms, _ => by
    have : ciL [] ms = [] := by cases ms <;> rfl
    rw [this]
    exact nf_nil
  | x :: ls, [], _ => nf_nil
  | x :: ls, y :: ms, h => by
    have h' : NF ([x] ++ ls) := h
    obtain ⟨nx, nl, sx⟩ := h'.app
    unfold ciL
    by_cases c : layB x y = true
    · rw [if_pos c]
      exact nf_app nx (ciL_nf nl) fun z => sx (ciL_seam z)
    · rw [if_neg c]
      rcases ciO_cases c with z | ⟨w, n, m, rfl, rfl, g, z⟩
      · rw [z]
        exact nf_nil
      · rw [z]
        exact nf_one ⟨(h.1 _ List.mem_cons_self).1, g⟩
/-- the common part is a part of the first -/
theorem ciL_div : ∀ {ls ms : List Lay}, NF ls → ∃ xs, NF xs ∧ joinL (ciL ls ms) xs = ls
  | [], ms, h => ⟨[], nf_nil, by
    have : ciL [] ms = [] := by cases ms <;> rfl
    rw [this]
    rfl⟩
  | x :: ls, [], h => ⟨x :: ls, h, rfl⟩
  | x :: ls, y :: ms, h => by
    have h' : NF ([x] ++ ls) := h
    obtain ⟨nx, nl, sx⟩ := h'.app
    unfold ciL
    by_cases c : layB x y = true
    · rw [if_pos c]
      obtain ⟨xs, n1, e1⟩ := ciL_div (ms := ms) nl
      refine ⟨xs, n1, ?_⟩
      by_cases z : ciL ls ms = []
      · rw [z] at e1 ⊢
        have e2 : xs = ls := e1
        subst e2
        exact join_one h
      · rw [join_cons z, e1]
    · rw [if_neg c]
      rcases ciO_cases c with z | ⟨w, n, m, rfl, rfl, g, z⟩
      · rw [z]
        exact ⟨_, h, rfl⟩
      · rw [z]
        have n2 := (h.1 _ List.mem_cons_self).2
        exact con_split h (gcdZ_dvd n2).1 g
theorem ciL_cons_same (l : Lay) (ls ms : List Lay) : ciL (l :: ls) (l :: ms) = l :: ciL ls ms := by
  show (if layB l l = true then _ else _) = _
  rw [if_pos (layB_refl l)]
/-- every common part is a part of it -/
theorem ciL_max : ∀ {ps xs ys : List Lay}, NF ps → NF xs → NF ys → ∃ zs, NF zs ∧ joinL ps zs = ciL (joinL ps xs) (joinL ps ys)
  | [], xs, ys, _, hx, hy => ⟨ciL xs ys, ciL_nf hx, rfl⟩
  | [p], xs, ys, hp, hx, hy => by
    have npx := (join_ok hp hx).1
    have npy := (join_ok hp hy).1
    rcases join_or [p] xs with ⟨A, w, n, m1, B, e1, rfl, ex⟩ | ⟨sx, ex⟩
    · have e1' := List.append_inj' (s₁ := []) e1 rfl
      obtain ⟨rfl, e1''⟩ := e1'
      cases e1''
      have ex : joinL [.con w n] (.con w m1 :: B) = .con w (n * m1) :: B := ex
      have n2 : 2 ≤ n := (hp.1 _ List.mem_cons_self).2
      have w0 : 0 ≤ w := (hp.1 _ List.mem_cons_self).1
      have m12 : 2 ≤ m1 := (hx.1 _ List.mem_cons_self).2
      rw [ex] at npx ⊢
      rcases join_or [.con w n] ys with ⟨A, w', n', m2, B', e1, rfl, ey⟩ | ⟨sy, ey⟩
      · have e1' := List.append_inj' (s₁ := []) e1 rfl
        obtain ⟨rfl, e1''⟩ := e1'
        cases e1''
        have ey : joinL [.con w n] (.con w m2 :: B') = .con w (n * m2) :: B' := ey
        have m22 : 2 ≤ m2 := (hy.1 _ List.mem_cons_self).2
        rw [ey] at npy ⊢
        by_cases em : m1 = m2
        · subst em
          rw [ciL_cons_same]
          have nB := ciL_nf (ms := B') (show NF B from hx.tail)
          have hx' : NF ([.con w m1] ++ B) := hx
          have sq : ¬ Seam [Lay.con w m1] (ciL B B') := fun z => hx'.app.2.2 (ciL_seam z)
          exact ⟨.con w m1 :: ciL B B', nf_app (nf_one (L := .con w m1) ⟨w0, m12⟩) nB sq, join_seam [] w n m1 _⟩
        · have ne : layB (.con w (n * m1)) (.con w (n * m2)) ≠ true := fun z => by
            have := layB_iff.mp z
            injection this with _ this
            exact em (Int.eq_of_mul_eq_mul_left (by omega) this)
          have eg : gcdZ (n * m1) (n * m2) = n * gcdZ m1 m2 := by
            unfold gcdZ
            rw [Int.natAbs_mul, Int.natAbs_mul, Nat.gcd_mul_left, Int.natCast_mul]
            congr 1
            omega
          obtain ⟨_, _, g1⟩ := gcdZ_dvd (n := m1) (m := m2) m12
          have gb : n * 1 ≤ n * gcdZ m1 m2 := Int.mul_le_mul_of_nonneg_left g1 (by omega)
          have ec : ciL (.con w (n * m1) :: B) (.con w (n * m2) :: B') = [.con w (n * gcdZ m1 m2)] := by
            show (if layB _ _ = true then _ else _) = _
            rw [if_neg ne]
            unfold ciO
            rw [if_neg ne]
            show (if w = w ∧ 1 < gcdZ (n * m1) (n * m2) then [Lay.con w (gcdZ (n * m1) (n * m2))] else []) = _
            rw [eg, if_pos ⟨rfl, by omega⟩]
          rw [ec]
          by_cases e1 : gcdZ m1 m2 = 1
          · rw [e1, Int.mul_one]
            exact ⟨[], nf_nil, join_nil _⟩
          · exact ⟨[.con w (gcdZ m1 m2)], nf_one ⟨w0, by omega⟩, join_seam [] w n _ []⟩
      · rw [ey] at npy ⊢
        have ne : layB (.con w (n * m1)) (.con w n) ≠ true := fun z => by
          have := layB_iff.mp z
          injection this with _ this
          have h3 : n * 2 ≤ n * m1 := Int.mul_le_mul_of_nonneg_left m12 (by omega)
          omega
        have eg : gcdZ (n * m1) n = n := by
          unfold gcdZ
          rw [Int.natAbs_mul, Nat.gcd_comm, Nat.gcd_mul_right_right]
          omega
        refine ⟨[], nf_nil, ?_⟩
        rw [join_nil]
        show _ = (if layB _ _ = true then _ else _)
        rw [if_neg ne]
        unfold ciO
        rw [if_neg ne]
        show _ = (if w = w ∧ 1 < gcdZ (n * m1) n then [Lay.con w (gcdZ (n * m1) n)] else [])
        rw [eg, if_pos ⟨rfl, by omega⟩]
    · rw [ex] at npx ⊢
      rcases join_or [p] ys with ⟨A, w, n, m2, B, e1, rfl, ey⟩ | ⟨sy, ey⟩
      · have e1' := List.append_inj' (s₁ := []) e1 rfl
        obtain ⟨rfl, e1''⟩ := e1'
        cases e1''
        have ey : joinL [.con w n] (.con w m2 :: B) = .con w (n * m2) :: B := ey
        have n2 : 2 ≤ n := (hp.1 _ List.mem_cons_self).2
        have m22 : 2 ≤ m2 := (hy.1 _ List.mem_cons_self).2
        rw [ey] at npy ⊢
        have ne : layB (.con w n) (.con w (n * m2)) ≠ true := fun z => by
          have := layB_iff.mp z
          injection this with _ this
          have h3 : n * 2 ≤ n * m2 := Int.mul_le_mul_of_nonneg_left m22 (by omega)
          omega
        have eg : gcdZ n (n * m2) = n := by
          unfold gcdZ
          rw [Int.natAbs_mul, Nat.gcd_mul_right_right]
          omega
        refine ⟨[], nf_nil, ?_⟩
        rw [join_nil]
        show _ = (if layB _ _ = true then _ else _)
        rw [if_neg ne]
        unfold ciO
        rw [if_neg ne]
        show _ = (if w = w ∧ 1 < gcdZ n (n * m2) then [Lay.con w (gcdZ n (n * m2))] else [])
        rw [eg, if_pos ⟨rfl, by omega⟩]
      · rw [ey] at npy ⊢
        have e : ciL ([p] ++ xs) ([p] ++ ys) = p :: ciL xs ys := ciL_cons_same p xs ys
        rw [e]
        refine ⟨ciL xs ys, ciL_nf hx, ?_⟩
        rw [join_plain fun z => sx (ciL_seam z)]
        rfl
  | p :: q :: ps, xs, ys, hp, hx, hy => by
    obtain ⟨zs, n1, e1⟩ := ciL_max (ps := q :: ps) hp.tail hx hy
    refine ⟨zs, n1, ?_⟩
    have ne : q :: ps ≠ [] := List.cons_ne_nil _ _
    rw [join_cons (xs := zs) ne, join_cons (xs := xs) ne, join_cons (xs := ys) ne, ciL_cons_same, e1]
/-! a walk over two lists of any lengths -/
theorem for_zip3 {K : PySem.W.Frag} {a b : Addr} {xs ys : List V} {g : TG} {tb : TS} {D : Ends} {σ : L2.St} {H : Hp} (Pv : Nat → L2.St → Hp → Prop) (h0 : Pv 0 σ H) (hq : ∀ i σ H, Pv i σ H → SqL K H a xs ∧ SqL K H b ys)
    (hs : ∀ (i : Nat) (x y : V) (T : Addr) (σ : L2.St) (H : Hp), xs[i]? = some x → ys[i]? = some y → Pv i σ H → H T = none → g (.ref T) σ (upd H T (.tup [x, y])) fun σ2 H2 => tb { D with nx := Pv (i + 1), ct := Pv (i + 1), bk := D.nx } σ2 H2) (hd : ∀ i σ H, i = min xs.length ys.length → Pv i σ H → D.nx σ H) :
    ∃ W : Nat → Nat → L2.St → Hp → Prop, (∃ m, W 0 m σ H) ∧ ∀ i m σ H, W i m σ H →
      ((Itz K a b).stop i H ∧ D.nx σ H) ∨ ((Itz K a b).go i H ∧ ∃ N : L2.St → Hp → Prop, (∀ σ' H', N σ' H' → ∃ m', m' < m ∧ W (i + 1) m' σ' H') ∧ ∀ v H', (Itz K a b).yld i H v H' → g v σ H' fun σ2 H2 => tb { D with nx := N, ct := N, bk := D.nx } σ2 H2) := by
  generalize hmin : min xs.length ys.length = l at *
  refine ⟨fun i m σ H => m = l - i ∧ i ≤ l ∧ Pv i σ H, ⟨l, rfl, Nat.zero_le _, h0⟩, ?_⟩
  rintro i m σ H ⟨rfl, hi, p⟩
  obtain ⟨qx, qy⟩ := hq i σ H p
  by_cases hlt : i < l
  · have hx : xs[i]? = some (xs[i]'(by omega)) := List.getElem?_eq_getElem (by omega)
    have hy : ys[i]? = some (ys[i]'(by omega)) := List.getElem?_eq_getElem (by omega)
    refine .inr ⟨⟨xs, ys, _, _, qx, qy, hx, hy⟩, Pv (i + 1), fun σ' H' p' => ⟨l - (i + 1), by omega, rfl, hlt, p'⟩, fun v H' y => ?_⟩
    obtain ⟨T, x', y', rfl, hT, rfl, f1, f2⟩ := y
    exact hs i x' y' T σ H (f1 xs qx) (f2 ys qy) p hT
  · have e : i = l := by omega
    refine .inl ⟨⟨xs, ys, qx, qy, ?_⟩, hd i σ H e p⟩
    omega
theorem nodup_rev {α : Type} {l : List α} (h : l.Nodup) : l.reverse.Nodup := by
  unfold List.Nodup at *
  rw [List.pairwise_reverse]
  exact h.imp fun a => Ne.symm a
theorem Lays.carry {G G' : Hp} {us : List V} {Ls : List Lay} (h : Lays G us Ls) (k : ∀ x o, V.ref x ∈ us → G x = some o → G' x = some o) : Lays G' us Ls := by
  refine ⟨h.1, fun i v L a b => ?_⟩
  have l := h.2 i v L a b
  have m := List.mem_of_getElem? a
  cases L with
  | pol ns => obtain ⟨x, rfl, e⟩ := l; exact ⟨x, rfl, k x _ m e⟩
  | con w n => obtain ⟨x, rfl, e⟩ := l; exact ⟨x, rfl, k x _ m e⟩
theorem Lays.none (G : Hp) : Lays G [] [] := ⟨rfl, fun i v L a => by cases a⟩
theorem eqv_lay {K : PySem.W.Frag} {H : Hp} {u v : V} {L M : Lay} (hL : LayAt H u L) (hM : LayAt H v M) : Dp K H u L.dat ∧ Dp K H v M.dat ∧ SeqAt.shaped L.dat = true ∧ SeqAt.shaped M.dat = true ∧ PyData.eqv L.dat M.dat = layB L M := by
  have sh : ∀ L : Lay, SeqAt.shaped L.dat = true := fun L => by
    cases L with
    | pol ns => exact shaped_ints ns
    | con w n =>
      unfold SeqAt.shaped
      rw [Bool.and_eq_true]
      refine ⟨?_, decide_eq_true ?_⟩
      · show (PyData.tuple [.int w, .int n]).canLay0 = true
        simp only [PyData.canLay0, PyData.canLayAll0, Bool.and_true]
      · show (PyData.tuple [.int w, .int n]).depth ≤ _
        simp only [PyData.depth, PyData.depthAll]
        decide
  exact ⟨dp_lay hL, dp_lay hM, sh L, sh M, eqv_dat L M⟩
end Rn

set_option Elab.async false
set_option linter.all false
set_option maxRecDepth 100000
set_option maxHeartbeats 4000000
namespace Rn
open PySem PySem.Spec PyProof.Rows L2
/-! # errors: where the first invalid layer stands -/
def badAt (Ls : List Lay) : Option Nat := Ls.findIdx? (fun L => !L.ok)
theorem badAt_none {Ls : List Lay} (h : badAt Ls = none) : ∀ L ∈ Ls, L.ok = true := fun L hL => by
  have := List.findIdx?_eq_none_iff.mp h L hL
  simpa using this
theorem badAt_all {Ls : List Lay} (h : ∀ L ∈ Ls, L.ok = true) : badAt Ls = none := List.findIdx?_eq_none_iff.mpr fun L hL => by rw [h L hL]; rfl
theorem badAt_first {Ls : List Lay} {i : Nat} (hi : i < Ls.length) (h : Ls[i].ok = false) (h0 : ∀ j : Nat, j < i → ∀ L, Ls[j]? = some L → L.ok = true) : badAt Ls = some i := by
  unfold badAt
  rw [List.findIdx?_eq_some_iff_getElem]
  refine ⟨hi, by rw [h]; rfl, fun j hj => ?_⟩
  have hjl : j < Ls.length := by omega
  rw [h0 j hj _ (List.getElem?_eq_getElem hjl)]
  decide
/-- the error of class C with this value ends the call -/
def Err (C : Addr) (v : V) (H : Hp) (E : XK) : Prop := ∀ H' d, Same H H' → H' d = some (.xd [(("value" : Str), v)]) → E (.ref C) (some d) H'
theorem Err.step {C : Addr} {v : V} {H H' : Hp} {E : XK} (h : Err C v H E) (s : Same H H') : Err C v H' E := fun H2 d s2 hd => h H2 d (s.trans s2) hd
end Rn
namespace Rn
open PySem PySem.Spec PyProof.Rows L2
/-- the same as a value -/
def badV (Ls : List Lay) : V := match badAt Ls with
  | none => .non
  | some i => .int (i : Nat)
/-- layers of which some have given way to invalid ones -/
def Bent (Ms Ls : List Lay) : Prop := Ms.length = Ls.length ∧ ∀ (i : Nat) M, Ms[i]? = some M → Ls[i]? = some M ∨ M.ok = false
theorem Bent.refl (Ls : List Lay) : Bent Ls Ls := ⟨rfl, fun _ _ h => .inl h⟩
theorem Bent.same {Ms Ls : List Lay} (h : Bent Ms Ls) (b : badAt Ms = none) : Ms = Ls := by
  refine List.ext_getElem? fun i => ?_
  cases e : Ms[i]? with
  | none => rw [List.getElem?_eq_none_iff] at e; rw [List.getElem?_eq_none_iff.mpr (by rw [← h.1]; exact e)]
  | some M =>
    rcases h.2 i M e with z | z
    · exact z.symm
    · rw [badAt_none b M (List.mem_of_getElem? e)] at z
      cases z
theorem Bent.set {Ms Ls : List Lay} (h : Bent Ms Ls) (i : Nat) {M : Lay} (b : M.ok = false) : Bent (Ms.set i M) Ls := by
  refine ⟨by rw [List.length_set]; exact h.1, fun j N hj => ?_⟩
  rw [List.getElem?_set] at hj
  split at hj
  · split at hj
    · cases hj
      exact .inr b
    · cases hj
  · exact h.2 j N hj
theorem nest_hid {a g p : Addr} {G : Hp} {Ls : List Lay} (h : NestAt (hid a g G) p Ls) : NestAt G p Ls := by
  obtain ⟨us, h1, h2, h3⟩ := h
  have l : Lays (hid a g G) us Ls := ⟨h2, h3⟩
  exact (l.carry fun x o _ e => (hid_get e).1).nest (hid_get h1).1
end Rn

set_option Elab.async false
set_option linter.all false
set_option maxRecDepth 100000
set_option maxHeartbeats 4000000
namespace Rn
open PySem PySem.Spec PyProof.Rows L2
/-! ## the source of draws that is a dict: at a, its great numbers at g; at most n draws were mixed -/
def bagKV (g : Addr) (l t f : Int) : List (Key × V) := [(Sum.inr "great", .ref g), (Sum.inr "left", .int l), (Sum.inr "turn", .int t), (Sum.inr "fold", .int f)]
theorem bag_left {g : Addr} {l t f x : Int} : putK (bagKV g l t f) (Sum.inr "left") (.int x) = bagKV g x t f := by rfl
theorem bag_turn {g : Addr} {l t f x : Int} : putK (bagKV g l t f) (Sum.inr "turn") (.int x) = bagKV g l x f := by rfl
theorem bag_get {H : Hp} {a g : Addr} {l t f : Int} (h : H a = some (.dK (bagKV g l t f))) : DGet H a (.str "left") (some (.int l)) ∧ DGet H a (.str "great") (some (.ref g)) ∧ DGet H a (.str "turn") (some (.int t)) ∧ DGet H a (.str "fold") (some (.int f)) :=
  ⟨DGet.k (k := Sum.inr "left") h, DGet.k (k := Sum.inr "great") h, DGet.k (k := Sum.inr "turn") h, DGet.k (k := Sum.inr "fold") h⟩
def Bag (H : Hp) (a g : Addr) (n : Int) : Prop := ∃ (l t f : Int) (ds : List Int), H a = some (.dK (bagKV g l t f)) ∧ H g = some (.lst (ds.map V.int)) ∧ 0 ≤ f ∧ f < 2305843009213693951 ∧ 0 ≤ t ∧ t ≤ n
theorem Bag.ne {H : Hp} {a g : Addr} {n : Int} (s : Bag H a g n) : a ≠ g := by
  obtain ⟨l, t, f, ds, h1, h2, _⟩ := s
  intro e
  rw [e, h2] at h1
  cases h1
theorem Bag.same {H H' : Hp} {a g : Addr} {n : Int} (s : Bag H a g n) (e : Same H H') : Bag H' a g n := by
  obtain ⟨l, t, f, ds, h1, h2, h3⟩ := s
  exact ⟨l, t, f, ds, e _ _ h1, e _ _ h2, h3⟩
theorem Bag.keep {H : Hp} {a g p : Addr} {o : HO} {n : Int} (s : Bag H a g n) (ha : p ≠ a) (hg : p ≠ g) : Bag (upd H p o) a g n := by
  obtain ⟨l, t, f, ds, h1, h2, h3⟩ := s
  exact ⟨l, t, f, ds, by rw [upd_ne ha.symm]; exact h1, by rw [upd_ne hg.symm]; exact h2, h3⟩
theorem Bag.mono {H : Hp} {a g : Addr} {n m : Int} (s : Bag H a g n) (h : n ≤ m) : Bag H a g m := by
  obtain ⟨l, t, f, ds, h1, h2, h3, h4, h5, h6⟩ := s
  exact ⟨l, t, f, ds, h1, h2, h3, h4, h5, Int.le_trans h6 h⟩
theorem Bag.new1 {H : Hp} {a g p : Addr} {n : Int} (s : Bag H a g n) (h : H p = none) : p ≠ a ∧ p ≠ g := by
  obtain ⟨l, t, f, ds, h1, h2, _⟩ := s
  exact ⟨(ne_of_none h1 h).symm, (ne_of_none h2 h).symm⟩
/-- what a call that draws at most c times does to the heap -/
structure Bdv (a g : Addr) (c : Int) (H H' : Hp) : Prop where
  same : Same (hid a g H) (hid a g H')
  src : ∀ n, Bag H a g n → Bag H' a g (n + c)
theorem Bdv.refl {a g : Addr} {H : Hp} : Bdv a g 0 H H := ⟨Same.refl _, fun n s => s.mono (by omega)⟩
theorem Bdv.trans {a g : Addr} {c c' e : Int} {H H1 H2 : Hp} (x : Bdv a g c H H1) (y : Bdv a g c' H1 H2) (h : c + c' ≤ e) : Bdv a g e H H2 :=
  ⟨x.same.trans y.same, fun n s => (y.src _ (x.src _ s)).mono (by omega)⟩
theorem Bdv.mono {a g : Addr} {c e : Int} {H H1 : Hp} (x : Bdv a g c H H1) (h : c ≤ e) : Bdv a g e H H1 := ⟨x.same, fun n s => (x.src _ s).mono (by omega)⟩
theorem Bdv.of {a g : Addr} {H H' : Hp} (e : Same H H') : Bdv a g 0 H H' := ⟨hid_same e, fun n s => (s.same e).mono (by omega)⟩
theorem Bdv.mut {a g : Addr} {c : Int} {H H' : Hp} {p : Addr} {o : HO} {n : Int} (x : Bdv a g c H H') (s : Bag H a g n) (h : H p = none) : Bdv a g c H (upd H' p o) := by
  obtain ⟨h1, h2⟩ := s.new1 h
  refine ⟨?_, fun m t => (x.src m t).keep h1 h2⟩
  rw [hid_oth h1 h2]
  exact same_keep x.same (hid_none h)
theorem Bdv.free {a g p : Addr} {c n : Int} {H H' : Hp} (x : Bdv a g c H H') (s : Bag H a g n) (h : H' p = none) : H p = none := by
  obtain ⟨h1, h2⟩ := (x.src n s).new1 h
  cases q : H p with
  | none => rfl
  | some o =>
    have e := (hid_get (x.same p o (hid_at q h1 h2))).1
    rw [h] at e
    cases e
theorem Bdv.made {a g : Addr} {c l t f l' t' : Int} {H H' : Hp} {ds' : List Int} (e : Same (hid a g H) (hid a g H')) (h : H a = some (.dK (bagKV g l t f)))
    (h' : H' a = some (.dK (bagKV g l' t' f))) (hg' : H' g = some (.lst (ds'.map V.int))) (h0 : t ≤ t') (h1 : t' ≤ t + c) : Bdv a g c H H' := by
  refine ⟨e, fun n s => ?_⟩
  obtain ⟨l2, t2, f2, ds, a1, a2, a3, a4, a5, a6⟩ := s
  rw [h] at a1
  injection (Option.some.inj a1) with a1
  injection a1 with _ a1
  injection a1 with _ a1
  injection a1 with b1 a1
  injection a1 with b2 _
  injection b1 with _ b1
  injection b1 with b1
  injection b2 with _ b2
  injection b2 with b2
  subst b1 b2
  exact ⟨l', t', f, ds', h', hg', a3, a4, by omega, by omega⟩
/-- a list of the way that stands beside the source -/
theorem sq_bag {K : PySem.W.Frag} {H0 H1 H' : Hp} {sa a g : Addr} {c : Int} {xs : List V} (h : SqL K H0 sa xs) (f : H0 a = none) (f2 : H0 g = none) (s : Same H0 H1) (A : Bdv a g c H1 H') : SqL K H' sa xs := by
  rcases h with (h | ⟨o, h⟩) | h
  · have h1 := s _ _ h
    have n1 : sa ≠ a := fun e => by rw [e, f] at h; cases h
    have n2 : sa ≠ g := fun e => by rw [e, f2] at h; cases h
    exact .inl (.inl (hid_get (A.same _ _ (hid_at h1 n1 n2))).1)
  · have h1 := s _ _ h
    have n1 : sa ≠ a := fun e => by rw [e, f] at h; cases h
    have n2 : sa ≠ g := fun e => by rw [e, f2] at h; cases h
    exact .inl (.inr ⟨o, (hid_get (A.same _ _ (hid_at h1 n1 n2))).1⟩)
  · exact .inr h
/-- a dict comprehension over a list that stands still -/
theorem dc_list {K : PySem.W.Frag} {a : Addr} {xs : List V} {g : TG} {tt : TT} {tk tv : TE} {vs : List Nat} {σ : L2.St} {H1 : Hp} {D : Addr} {Qd : Hp → Prop} (Pv : Nat → Hp → Prop) (h0 : Pv 0 (upd H1 D (.dK [])))
    (hl : ∀ i H, i ≤ xs.length → Pv i H → SqL K H a xs)
    (hs : ∀ i x H, xs[i]? = some x → Pv i H → g x (wipe σ vs) H fun σ2 H2 => wipe σ2 vs = wipe σ vs ∧ tt σ2 H2 fun b H3 =>
      if b = true then tk σ2 H3 fun y H4 => tv σ2 H4 fun z H5 => ∃ kvs k, y = kV k ∧ H5 D = some (.dK kvs) ∧ kvs.length < sizeLine ∧ Pv (i + 1) (upd H5 D (.dK (putK kvs k z))) else Pv (i + 1) H3) (hd : ∀ H, Pv xs.length H → Qd H) :
    ∃ W : Nat → Nat → Hp → Prop, (∃ m, W 0 m (upd H1 D (.dK []))) ∧ ∀ i m H, W i m H →
      ((Itl K a).stop i H ∧ Qd H) ∨ ((Itl K a).go i H ∧ ∃ Nx : Hp → Prop, (∀ H', Nx H' → ∃ m', m' < m ∧ W (i + 1) m' H') ∧ ∀ x H', (Itl K a).yld i H x H' → g x (wipe σ vs) H' fun σ2 H2 => wipe σ2 vs = wipe σ vs ∧ tt σ2 H2 fun b H3 =>
        if b = true then tk σ2 H3 fun y H4 => tv σ2 H4 fun z H5 => ∃ kvs k, y = kV k ∧ H5 D = some (.dK kvs) ∧ kvs.length < sizeLine ∧ Nx (upd H5 D (.dK (putK kvs k z))) else Nx H3) := by
  refine ⟨fun i m H => m = xs.length - i ∧ i ≤ xs.length ∧ Pv i H, ⟨xs.length, by simp, Nat.zero_le _, h0⟩, ?_⟩
  rintro i m H ⟨rfl, hi, p⟩
  have q := hl i H hi p
  by_cases hlt : i < xs.length
  · refine .inr ⟨⟨xs, xs[i], q, by simp [hlt]⟩, Pv (i + 1), fun H' p' => ⟨xs.length - (i + 1), by omega, rfl, hlt, p'⟩, fun x H' y => ?_⟩
    obtain ⟨e, y⟩ := y
    subst e
    exact hs i x _ (y xs q) p
  · have e : i = xs.length := by omega
    subst e
    exact .inl ⟨⟨xs, q, Nat.le_refl _⟩, hd H p⟩
/-! ## comprehensions over ints -/
/-- [x for x in range(lo, lo + n) if p(x)], where a turn changes nothing -/
theorem lc_filter {lo : Int} {n : Nat} {g : TG} {tt : TT} {te : TE} {vs : List Nat} {σ : L2.St} {H1 : Hp} {D : Addr} {Qd : Hp → Prop} (p : Int → Bool) (hD : H1 D = none) (hn : n ≤ 50000)
    (hs : ∀ i H (T : V → Hp → Prop) (F : Hp → Prop), i < n → Same H1 H → (p (lo + (i : Int)) = true → T (.int (lo + (i : Int))) H) → (p (lo + (i : Int)) = false → F H) →
      g (.int (lo + (i : Int))) (wipe σ vs) H fun σ2 H2 => wipe σ2 vs = wipe σ vs ∧ tt σ2 H2 fun b H3 => if b = true then te σ2 H3 T else F H3)
    (hd : ∀ H2, Same H1 H2 → H2 D = some (.lst ((((List.range n).map fun i : Nat => lo + (i : Int)).filter p).map V.int)) → Qd H2) :
    ∃ W : Nat → Nat → Hp → Prop, (∃ m, W 0 m (upd H1 D (.lst []))) ∧ ∀ i m H, W i m H →
      ((Itr lo n).stop i H ∧ Qd H) ∨ ((Itr lo n).go i H ∧ ∃ Nx : Hp → Prop, (∀ H', Nx H' → ∃ m', m' < m ∧ W (i + 1) m' H') ∧ ∀ x H', (Itr lo n).yld i H x H' → g x (wipe σ vs) H' fun σ2 H2 => wipe σ2 vs = wipe σ vs ∧ tt σ2 H2 fun b H3 =>
        if b = true then te σ2 H3 fun y H4 => ∃ acc, H4 D = some (.lst acc) ∧ acc.length < sizeLine ∧ Nx (upd H4 D (.lst (acc ++ [y]))) else Nx H3) := by
  have tk : ∀ i : Nat, ((List.range (i + 1)).map fun i : Nat => lo + (i : Int)).filter p = ((List.range i).map fun i : Nat => lo + (i : Int)).filter p ++ (if p (lo + (i : Int)) = true then [lo + (i : Int)] else []) := fun i => by
    rw [List.range_succ, List.map_append, List.filter_append]
    congr 1
    rw [List.map_cons, List.map_nil, List.filter_cons, List.filter_nil]
  refine lc_range (fun i H' => Same H1 H' ∧ H' D = some (.lst ((((List.range i).map fun i : Nat => lo + (i : Int)).filter p).map V.int))) ⟨same_new hD, upd_same⟩ (fun i H hi h => ?_) (fun H h => hd H h.1 h.2)
  obtain ⟨sm, hd1⟩ := h
  refine hs i H _ _ hi sm (fun e => ?_) (fun e => ?_)
  · refine ⟨_, hd1, size_lt ?_, same_keep sm hD, ?_⟩
    · rw [List.length_map]
      have := List.length_filter_le p ((List.range i).map fun i : Nat => lo + (i : Int))
      rw [List.length_map, List.length_range] at this
      omega
    · rw [upd_same, tk, if_pos e, List.map_append]
      rfl
  · refine ⟨sm, ?_⟩
    rw [tk, if_neg (by rw [e]; exact Bool.false_ne_true), List.append_nil]
    exact hd1
/-- [f(x) for x in ns], where a turn changes nothing that stood -/
theorem lc_mapI {K : PySem.W.Frag} {a : Addr} {ns : List Int} {g : TG} {te : TE} {vs : List Nat} {σ : L2.St} {H1 : Hp} {D : Addr} {Qd : Hp → Prop} (f : Int → Int) (hD : H1 D = none) (ha : SqL K H1 a (ns.map V.int)) (hn : ns.length ≤ 50000)
    (hs : ∀ (i : Nat) x H (T : V → Hp → Prop), ns[i]? = some x → Same H1 H → (∀ H', Same H H' → T (.int (f x)) H') → g (.int x) (wipe σ vs) H fun σ2 H2 => wipe σ2 vs = wipe σ vs ∧ te σ2 H2 T)
    (hd : ∀ H2, Same H1 H2 → H2 D = some (.lst ((ns.map f).map V.int)) → Qd H2) (hg : ∀ x σ H (R R' : L2.St → Hp → Prop), (∀ σ H, R σ H → R' σ H) → g x σ H R → g x σ H R') :
    ∃ W : Nat → Nat → Hp → Prop, (∃ m, W 0 m (upd H1 D (.lst []))) ∧ ∀ i m H, W i m H →
      ((Itl K a).stop i H ∧ Qd H) ∨ ((Itl K a).go i H ∧ ∃ Nx : Hp → Prop, (∀ H', Nx H' → ∃ m', m' < m ∧ W (i + 1) m' H') ∧ ∀ x H', (Itl K a).yld i H x H' → g x (wipe σ vs) H' fun σ2 H2 => wipe σ2 vs = wipe σ vs ∧ tYes σ2 H2 fun b H3 =>
        if b = true then te σ2 H3 fun y H4 => ∃ acc, H4 D = some (.lst acc) ∧ acc.length < sizeLine ∧ Nx (upd H4 D (.lst (acc ++ [y]))) else Nx H3) := by
  refine lc_list (xs := ns.map V.int) (fun i H' => Same H1 H' ∧ H' D = some (.lst (((ns.take i).map f).map V.int))) ⟨same_new hD, upd_same⟩ (fun i H _ h => h.1.seq ha) (fun i x H hx h => ?_) (fun H h => hd H h.1 ?_)
  · obtain ⟨sm, hd1⟩ := h
    rw [List.getElem?_map] at hx
    obtain ⟨c, hc, rfl⟩ := Option.map_eq_some_iff.mp hx
    have hi : i < ns.length := (List.getElem?_eq_some_iff.mp hc).1
    refine hg _ _ _ _ _ (fun σ2 H2 z => ⟨z.1, yes_thn z.2⟩) (hs i c H _ hc sm fun H' s' => ?_)
    refine ⟨_, s' _ _ hd1, size_lt (by rw [List.length_map, List.length_map, List.length_take]; omega), same_keep (sm.trans s') hD, ?_⟩
    rw [upd_same, List.take_add_one, hc, Option.toList_some, List.map_append, List.map_append]
    rfl
  · have := h.2
    rw [List.length_map, List.take_length] at this
    exact this
theorem gName_mono {i : Nat} : ∀ x σ H (R R' : L2.St → Hp → Prop), (∀ σ H, R σ H → R' σ H) → gName i x σ H R → gName i x σ H R' := fun x σ H R R' k h => k _ _ h
/-- [f(x) for x in ns], any values -/
theorem lc_mapV {K : PySem.W.Frag} {a : Addr} {ns : List Int} {g : TG} {te : TE} {vs : List Nat} {σ : L2.St} {H1 : Hp} {D : Addr} {Qd : Hp → Prop} (f : Int → V) (hD : H1 D = none) (ha : SqL K H1 a (ns.map V.int)) (hn : ns.length ≤ 50000)
    (hs : ∀ (i : Nat) x H (T : V → Hp → Prop), ns[i]? = some x → Same H1 H → (∀ H', Same H H' → T (f x) H') → g (.int x) (wipe σ vs) H fun σ2 H2 => wipe σ2 vs = wipe σ vs ∧ te σ2 H2 T)
    (hd : ∀ H2, Same H1 H2 → H2 D = some (.lst (ns.map f)) → Qd H2) (hg : ∀ x σ H (R R' : L2.St → Hp → Prop), (∀ σ H, R σ H → R' σ H) → g x σ H R → g x σ H R') :
    ∃ W : Nat → Nat → Hp → Prop, (∃ m, W 0 m (upd H1 D (.lst []))) ∧ ∀ i m H, W i m H →
      ((Itl K a).stop i H ∧ Qd H) ∨ ((Itl K a).go i H ∧ ∃ Nx : Hp → Prop, (∀ H', Nx H' → ∃ m', m' < m ∧ W (i + 1) m' H') ∧ ∀ x H', (Itl K a).yld i H x H' → g x (wipe σ vs) H' fun σ2 H2 => wipe σ2 vs = wipe σ vs ∧ tYes σ2 H2 fun b H3 =>
        if b = true then te σ2 H3 fun y H4 => ∃ acc, H4 D = some (.lst acc) ∧ acc.length < sizeLine ∧ Nx (upd H4 D (.lst (acc ++ [y]))) else Nx H3) := by
  refine lc_list (xs := ns.map V.int) (fun i H' => Same H1 H' ∧ H' D = some (.lst ((ns.take i).map f))) ⟨same_new hD, upd_same⟩ (fun i H _ h => h.1.seq ha) (fun i x H hx h => ?_) (fun H h => hd H h.1 ?_)
  · obtain ⟨sm, hd1⟩ := h
    rw [List.getElem?_map] at hx
    obtain ⟨c, hc, rfl⟩ := Option.map_eq_some_iff.mp hx
    have hi : i < ns.length := (List.getElem?_eq_some_iff.mp hc).1
    refine hg _ _ _ _ _ (fun σ2 H2 z => ⟨z.1, yes_thn z.2⟩) (hs i c H _ hc sm fun H' s' => ?_)
    refine ⟨_, s' _ _ hd1, size_lt (by rw [List.length_map, List.length_take]; omega), same_keep (sm.trans s') hD, ?_⟩
    rw [upd_same, List.take_add_one, hc, Option.toList_some, List.map_append]
    rfl
  · have := h.2
    rw [List.length_map, List.take_length] at this
    exact this
/-- [f(x) for x in range(lo, lo + n)], any values -/
theorem lc_mapR {lo : Int} {n : Nat} {g : TG} {te : TE} {vs : List Nat} {σ : L2.St} {H1 : Hp} {D : Addr} {Qd : Hp → Prop} (f : Int → V) (hD : H1 D = none) (hn : n ≤ 50000)
    (hs : ∀ (i : Nat) H (T : V → Hp → Prop), i < n → Same H1 H → (∀ H', Same H H' → T (f (lo + (i : Int))) H') → g (.int (lo + (i : Int))) (wipe σ vs) H fun σ2 H2 => wipe σ2 vs = wipe σ vs ∧ te σ2 H2 T)
    (hd : ∀ H2, Same H1 H2 → H2 D = some (.lst ((List.range n).map fun i : Nat => f (lo + (i : Int)))) → Qd H2) (hg : ∀ x σ H (R R' : L2.St → Hp → Prop), (∀ σ H, R σ H → R' σ H) → g x σ H R → g x σ H R') :
    ∃ W : Nat → Nat → Hp → Prop, (∃ m, W 0 m (upd H1 D (.lst []))) ∧ ∀ i m H, W i m H →
      ((Itr lo n).stop i H ∧ Qd H) ∨ ((Itr lo n).go i H ∧ ∃ Nx : Hp → Prop, (∀ H', Nx H' → ∃ m', m' < m ∧ W (i + 1) m' H') ∧ ∀ x H', (Itr lo n).yld i H x H' → g x (wipe σ vs) H' fun σ2 H2 => wipe σ2 vs = wipe σ vs ∧ tYes σ2 H2 fun b H3 =>
        if b = true then te σ2 H3 fun y H4 => ∃ acc, H4 D = some (.lst acc) ∧ acc.length < sizeLine ∧ Nx (upd H4 D (.lst (acc ++ [y]))) else Nx H3) := by
  refine lc_range (fun i H' => Same H1 H' ∧ H' D = some (.lst ((List.range i).map fun i : Nat => f (lo + (i : Int))))) ⟨same_new hD, upd_same⟩ (fun i H hi h => ?_) (fun H h => hd H h.1 h.2)
  obtain ⟨sm, hd1⟩ := h
  refine hg _ _ _ _ _ (fun σ2 H2 z => ⟨z.1, yes_thn z.2⟩) (hs i H _ hi sm fun H' s' => ?_)
  refine ⟨_, s' _ _ hd1, size_lt (by rw [List.length_map, List.length_range]; omega), same_keep (sm.trans s') hD, ?_⟩
  rw [upd_same, List.range_succ, List.map_append]
  rfl
/-- lists of ints at the addresses ps -/
def ListsAt (H : Hp) (ps : List Addr) (wss : List (List Int)) : Prop := Paired (fun p (ws : List Int) => H p = some (.lst (ws.map V.int))) ps wss
theorem ListsAt.same {H H' : Hp} {ps : List Addr} {wss : List (List Int)} (h : ListsAt H ps wss) (e : Same H H') : ListsAt H' ps wss := by
  induction h with
  | nil => exact .nil
  | cons r _ ih => exact .cons (e _ _ r) ih
theorem ListsAt.keep {H : Hp} {ps : List Addr} {wss : List (List Int)} {q : Addr} {o : HO} (h : ListsAt H ps wss) (hn : ∀ x ∈ ps, x ≠ q) : ListsAt (upd H q o) ps wss := by
  induction h with
  | nil => exact .nil
  | cons r _ ih => exact .cons (by rw [upd_ne (hn _ List.mem_cons_self)]; exact r) (ih fun x hx => hn x (List.mem_cons_of_mem _ hx))
theorem ListsAt.app {H : Hp} {ps qs : List Addr} {wss vss : List (List Int)} (h : ListsAt H ps wss) (h2 : ListsAt H qs vss) : ListsAt H (ps ++ qs) (wss ++ vss) := by
  induction h with
  | nil => exact h2
  | cons r _ ih => exact .cons r ih
theorem ListsAt.get {H : Hp} {ps : List Addr} {wss : List (List Int)} (h : ListsAt H ps wss) : ∀ {i : Nat} {p : Addr}, ps[i]? = some p → ∃ ws, wss[i]? = some ws ∧ H p = some (.lst (ws.map V.int)) := by
  induction h with
  | nil => intro i p z; cases z
  | cons r _ ih =>
    intro i p z
    cases i with
    | zero => cases z; exact ⟨_, rfl, r⟩
    | succ i => exact ih z
theorem ListsAt.len {H : Hp} {ps : List Addr} {wss : List (List Int)} (h : ListsAt H ps wss) : ps.length = wss.length := by
  induction h with
  | nil => rfl
  | cons _ _ ih => rw [List.length_cons, List.length_cons, ih]
theorem ListsAt.some {H : Hp} {ps : List Addr} {wss : List (List Int)} (h : ListsAt H ps wss) {p : Addr} (hp : p ∈ ps) : ∃ o, H p = some o := by
  obtain ⟨i, hi, e⟩ := List.getElem_of_mem hp
  obtain ⟨ws, _, z⟩ := h.get (i := i) (p := p) (by rw [List.getElem?_eq_getElem hi, e])
  exact ⟨_, z⟩
end Rn

set_option Elab.async false
set_option linter.all false
set_option maxRecDepth 100000
set_option maxHeartbeats 4000000
namespace Rn
open PySem PySem.Spec PyProof.Rows L2
/-! # counting flat values in a list; calls of a def that a list gives -/
section
variable {X : Cx}
def rCntV (K : PySem.W.Frag) : V → List V → Hp → VK → Prop := fun x xs H Q => ∃ (p : Addr) (ys : List V) (y : V), x = .ref p ∧ xs = [y] ∧ SqL K H p ys ∧ flatV y = true ∧ ys.all flatV = true ∧ Q (.int (ys.countP fun z => eqV z y : Nat)) H
theorem countP_rel {us : List Value} {ys : List V} {y : V} (rv : Vals ys us) (f : ys.all flatV = true) : us.countP (eqU y) = ys.countP fun z => eqV z y := by
  induction rv with
  | nil => rfl
  | cons r _ ih =>
    rw [List.all_cons, Bool.and_eq_true] at f
    rw [List.countP_cons, List.countP_cons, ih f.2, eqU_of r f.1]
theorem mt_countV {K : PySem.W.Frag} (hK : X.K = K) : MtR X "list.count" (rCntV K) := by
  subst hK
  intro pins s σ H x xs v us Q I rx rxs h
  obtain ⟨p, ys, y, rfl, rfl, hs, fy, fys, q⟩ := h
  cases rx
  cases rxs with
  | cons ry rt =>
    rename_i uy ut
    cases rt
    obtain ⟨its, rv, ⟨⟨cls, dd, data, sl⟩, n, ho, hc, hdn, hd⟩, hlen⟩ := I.list hs
    simp only at hc hd
    subst hc hd
    refine call_meets PySem.F.slot_list_count ⟨_, ho, rfl⟩ PySem.F.entry_list_count (PySem.F.args_list_count_2 _ _)
      (SeqAt.list_countAt p its.toArray n dd sl uy (eqU y)) ⟨ho, fun u' hu' => mem_eqAt ry fy rv fys u' (by simpa using hu'), ?_⟩
    have ec : its.toArray.toList.countP (eqU y) = ys.countP fun z => eqV z y := countP_rel rv fys
    refine ⟨.int (ys.countP fun z => eqV z y : Nat), H, I.tok _, ⟨s.toks, ?_⟩, q⟩
    show Value.int ((its.toArray.toList.countP (eqU y) : Nat) : Int) s.toks = Value.int ((ys.countP fun z => eqV z y : Nat) : Int) s.toks
    rw [ec]
theorem mt_indexK {K : PySem.W.Frag} (hK : X.K = K) : MtR X "list.index" (rIndex K) := by
  subst hK
  exact mt_index
theorem pe_bmK {K : PySem.W.Frag} (hK : X.K = K) {o e : Expr} {es : List Expr} {to : TE} {t : TA} {name : Str} {apos cpos : Pos} {T id : String} {r : V → List V → Hp → VK → Prop}
    (pa : PlainAttrs T) (slot : Slot T name id) (hty : typeOf (.builtin id) = pure (.type "method_descriptor")) (hm : MtR X id r) (ho : PE X o to) (ha : PA X (e :: es) t)
    (hbase : attributeBase o name X.env (eval o X.env) = eval o X.env := by rfl)
    (hfew : ((backTo cpos (starEach (e :: es) X.env)).all (fun x => !x.1) && (backToKw cpos (keywordEach [] X.env)).all (fun x => x.1.isSome)
      && decide ((e :: es).length + ([] : List Keyword).length + (if ([] : List Keyword).isEmpty then 0 else 1) < 30)) = true := by rfl)
    (hline : (apos.endLine == cpos.line) = true := by rfl) (hs : starEach (e :: es) X.env = (false, eval e X.env) :: starEach es X.env := by rfl) (hplain : (backTo cpos (starEach es X.env)).any (·.1) = false := by rfl) :
    PE X (.Call (.Attribute o name apos) (e :: es) [] cpos) (tBM K T r to t) := by
  subst hK
  exact pe_bm pa slot hty hm ho ha hbase hfew hline hs hplain
/-- a def that can be called here -/
def Callee (X : Cx) (CX : CXT) (k : Nat) (f : Addr) (sp : Sp) : Prop := ∃ (fd : FuncData) (ps : List Str), FnOk X.prog X.w X.K X.mg X.base CX k f fd ps sp ∧ PySem.W.keepIn X.K (.ref f) = true ∧ Binds X.K fd ps []
def tCallF (S : Addr → Sp → Prop) (E : L2.St → XK) (tf : TE) (t : TA) : TE := fun σ H Q => tf σ H fun v H1 => ∃ (f : Addr) (sp : Sp), v = .ref f ∧ S f sp ∧ t σ H1 fun vs H2 => sp vs H2 Q (E σ)
theorem pe_callF {CX : CXT} {k : Nat} {S : Addr → Sp → Prop} {E : L2.St → XK} {fv fs : Expr} {fp pos : Pos} {e : Expr} {es : List Expr} {tf : TE} {t : TA} (hS : ∀ f sp, S f sp → Callee X CX k f sp) (hr : Room k X.A) (hx : ∀ σ, PassesAt CX X σ (E σ))
    (hf : PE X (.Subscript fv fs fp) tf) (ha : PA X (e :: es) t) (he : starEach (e :: es) X.env = (false, eval e X.env) :: starEach es X.env := by rfl) (hpl : (backTo pos (starEach es X.env)).any (·.1) = false := by rfl) :
    PE X (.Call (.Subscript fv fs fp) (e :: es) [] pos) (tCallF S E tf t) := by
  refine ⟨fun pins s σ H Q I h => ?_⟩
  have arm : eval (.Call (.Subscript fv fs fp) (e :: es) [] pos) X.env = (do callWith pos (← eval (.Subscript fv fs fp) X.env) [] (backTo pos (starEach (e :: es) X.env)) (backToKw pos (keywordEach [] X.env))) := rfl
  rw [arm]
  refine wpAny_bind (thn (hf.run pins s σ H _ I h) fun u s1 ⟨v, H1, I1, r1, q1⟩ => ?_)
  obtain ⟨f, sp, rfl, hs, q1⟩ := q1
  cases r1
  obtain ⟨fd, ps, F, kp, hb⟩ := hS f sp hs
  refine PySem.W.callWith_K (h₀ := X.base) I1.ok.mod.kin kp (thn (ha.run pos pins s1 σ H1 _ I1 q1) fun us s2 ⟨vs, H2, I2, r, q2⟩ => ⟨I2.kIn, ?_⟩) he hpl
  exact run_fnSD F hr hb .nil (hx σ) I2 r (by rw [List.append_nil]; exact q2)
end
/-- [f(x) for x in ns if p(x)], where a turn changes nothing -/
theorem lc_filtL {K : PySem.W.Frag} {a : Addr} {ns : List Int} {g : TG} {tt : TT} {te : TE} {vs : List Nat} {σ : L2.St} {H1 : Hp} {D : Addr} {Qd : Hp → Prop} (p : Int → Bool) (f : Int → V) (hD : H1 D = none) (ha : SqL K H1 a (ns.map V.int)) (hn : ns.length ≤ 50000)
    (hs : ∀ (i : Nat) x H (T : V → Hp → Prop) (F : Hp → Prop), ns[i]? = some x → Same H1 H → (p x = true → T (f x) H) → (p x = false → F H) → g (.int x) (wipe σ vs) H fun σ2 H2 => wipe σ2 vs = wipe σ vs ∧ tt σ2 H2 fun b H3 => if b = true then te σ2 H3 T else F H3)
    (hd : ∀ H2, Same H1 H2 → H2 D = some (.lst ((ns.filter p).map f)) → Qd H2) :
    ∃ W : Nat → Nat → Hp → Prop, (∃ m, W 0 m (upd H1 D (.lst []))) ∧ ∀ i m H, W i m H →
      ((Itl K a).stop i H ∧ Qd H) ∨ ((Itl K a).go i H ∧ ∃ Nx : Hp → Prop, (∀ H', Nx H' → ∃ m', m' < m ∧ W (i + 1) m' H') ∧ ∀ x H', (Itl K a).yld i H x H' → g x (wipe σ vs) H' fun σ2 H2 => wipe σ2 vs = wipe σ vs ∧ tt σ2 H2 fun b H3 =>
        if b = true then te σ2 H3 fun y H4 => ∃ acc, H4 D = some (.lst acc) ∧ acc.length < sizeLine ∧ Nx (upd H4 D (.lst (acc ++ [y]))) else Nx H3) := by
  refine lc_list (xs := ns.map V.int) (fun i H' => Same H1 H' ∧ H' D = some (.lst (((ns.take i).filter p).map f))) ⟨same_new hD, upd_same⟩ (fun i H _ h => h.1.seq ha) (fun i x H hx h => ?_) (fun H h => hd H h.1 ?_)
  · obtain ⟨sm, hd1⟩ := h
    rw [List.getElem?_map] at hx
    obtain ⟨c, hc, rfl⟩ := Option.map_eq_some_iff.mp hx
    have hi : i < ns.length := (List.getElem?_eq_some_iff.mp hc).1
    have tk : (ns.take (i + 1)).filter p = (ns.take i).filter p ++ (if p c = true then [c] else []) := by
      rw [List.take_add_one, hc, Option.toList_some, List.filter_append]
      congr 1
      rw [List.filter_cons, List.filter_nil]
    refine hs i c H _ _ hc sm (fun e => ?_) (fun e => ?_)
    · refine ⟨_, hd1, size_lt ?_, same_keep sm hD, ?_⟩
      · rw [List.length_map]
        have := List.length_filter_le p (ns.take i)
        rw [List.length_take] at this
        omega
      · rw [upd_same, tk, if_pos e, List.map_append]
        rfl
    · refine ⟨sm, ?_⟩
      rw [tk, if_neg (by rw [e]; exact Bool.false_ne_true), List.append_nil]
      exact hd1
  · have := h.2
    rw [List.length_map, List.take_length] at this
    exact this
/-! ## layers of any sign that can be shown -/
def Lay.seen (L : Lay) : Prop := match L with
  | .pol ns => ns.length ≤ 60 ∧ ∀ x ∈ ns, x.natAbs < 10 ^ 24
  | .con w n => w.natAbs < 10 ^ 24 ∧ n.natAbs < 10 ^ 24
theorem Lay.nice.seen {L : Lay} (h : L.nice) : L.seen := by
  obtain ⟨h0, h1⟩ := h
  cases L with
  | pol ns => exact ⟨h1.1, fun x hx => by have := h1.2 x hx; omega⟩
  | con w n =>
    rw [Lay.ok_con, Bool.and_eq_true, decide_eq_true_eq, decide_eq_true_eq] at h0
    have h1 : w < 1000000000000 ∧ n < 1000000000000000000000 := h1
    exact ⟨by omega, by omega⟩
theorem Shw.layF {L : Lay} (h : L.seen) : Shw L.dat 4860 2 := by
  cases L with
  | pol ns =>
    obtain ⟨h1, h2⟩ : ns.length ≤ 60 ∧ ∀ x ∈ ns, x.natAbs < 10 ^ 24 := h
    exact (Shw.nums h2).mono (by omega) (Nat.le_refl _)
  | con w n =>
    obtain ⟨h1, h2⟩ : w.natAbs < 10 ^ 24 ∧ n.natAbs < 10 ^ 24 := h
    refine (Shw.tuple (ds := [.int w, .int n]) (W := 80) (D := 1) fun d hd => ?_).mono (by show 2 * 81 ≤ 4860; decide) (Nat.le_refl _)
    simp only [List.mem_cons, List.not_mem_nil, or_false] at hd
    rcases hd with rfl | rfl
    · exact Shw.int h1
    · exact Shw.int h2
theorem Shw.nestF {Ls : List Lay} {m : Nat} (h : ∀ L ∈ Ls, L.seen) (hl : Ls.length ≤ m) : Shw (.list (Ls.map Lay.dat)) (m * 4861) 3 := by
  refine (Shw.list (ds := Ls.map Lay.dat) (W := 4860) (D := 2) fun d hd => ?_).mono (by rw [List.length_map]; exact Nat.mul_le_mul_right _ hl) (Nat.le_refl _)
  obtain ⟨L, hL, rfl⟩ := List.mem_map.mp hd
  exact Shw.layF (h L hL)
/-- layers of which some have given way -/
theorem Lays.set {G : Hp} {us : List V} {Ls : List Lay} (h : Lays G us Ls) (j : Nat) {v : V} {L : Lay} (hv : LayAt G v L) : Lays G (us.set j v) (Ls.set j L) := by
  refine ⟨by rw [List.length_set, List.length_set, h.1], fun i u M a b => ?_⟩
  rw [List.getElem?_set] at a b
  by_cases c : j = i
  · rw [if_pos c] at a b
    split at a
    · split at b
      · cases a
        cases b
        exact hv
      · cases b
    · cases a
  · rw [if_neg c] at a b
    exact h.2 i u M a b
theorem Lays.cons {G : Hp} {v : V} {us : List V} {L : Lay} {Ls : List Lay} (hv : LayAt G v L) (h : Lays G us Ls) : Lays G (v :: us) (L :: Ls) := ⟨by rw [List.length_cons, List.length_cons, h.1], fun i u M a b => by
  cases i with
  | zero =>
    cases a
    cases b
    exact hv
  | succ i => exact h.2 i u M a b⟩
theorem int_eq {i j : Int} {A B : Prop} (h1 : i = j → A) (h2 : i ≠ j → B) : if decide (V.int i = V.int j) = true then A else B :=
  ite2 (fun e => h1 (by have := of_decide_eq_true e; injection this)) (fun e => h2 fun z => e (decide_eq_true (by rw [z])))
theorem int_ne {i j : Int} {A B : Prop} (h1 : i ≠ j → A) (h2 : i = j → B) : if (!decide (V.int i = V.int j)) = true then A else B := by
  by_cases e : i = j
  · rw [e, decide_eq_true rfl]
    exact iteF (h2 e)
  · rw [decide_eq_false fun z => e (by injection z)]
    exact iteT (h1 e)
theorem bl_ne {b c : Bool} {A B : Prop} (h : b ≠ c) (x : B) : if decide (V.bl b = V.bl c) = true then A else B := by
  rw [decide_eq_false fun z => h (by injection z)]
  exact iteF x
theorem badV_some {Ls : List Lay} {i : Nat} (h : badAt Ls = some i) : badV Ls = .int (i : Nat) := by
  unfold badV
  rw [h]
theorem badV_none {Ls : List Lay} (h : badAt Ls = none) : badV Ls = .non := by
  unfold badV
  rw [h]
theorem bad_split {Ls : List Lay} {A B : Prop} (h1 : ∀ i : Nat, badAt Ls = some i → A) (h2 : badAt Ls = none → B) : if (!decide (badV Ls = V.non)) = true then A else B := by
  cases e : badAt Ls with
  | none =>
    rw [badV_none e]
    exact iteF (h2 e)
  | some i =>
    rw [badV_some e]
    exact iteT (h1 i e)
theorem tup_ok (x : Str) (z : Int) (hx : PyData.strOk x = true) : (PyData.tuple [.str x, .int z]).canLay0 = true ∧ SeqAt.shaped (PyData.tuple [.str x, .int z]) = true := by
  have : (PyData.tuple [.str x, .int z]).canLay0 = true := by simp only [PyData.canLay0, PyData.canLayAll0, Bool.and_true, hx]
  refine ⟨this, ?_⟩
  unfold SeqAt.shaped
  rw [this, Bool.true_and]
  simp only [PyData.depth, PyData.depthAll]
  rfl
end Rn

set_option Elab.async false
set_option linter.all false
set_option maxRecDepth 100000
set_option maxHeartbeats 4000000
namespace Rn
open PySem PySem.Spec PyProof.Rows L2
/-! # a caught error that is kept behind its except suite -/
/-- the error object at a, its class cls, its dict d -/
def ErO (cls : Value) (d : Option Addr) (a : Addr) : HO := .ext fun h => ∃ (oe : Obj), h.get? a = some oe ∧ Zc cls d oe ∧ ∃ vs, oe.data = .fields vs
theorem erO_ok {P : Program} {w : World} {H : Hp} {h : Heap} {a : Addr} {cls : Value} {d : Option Addr} {oe : Obj} (e : h.get? a = some oe) (z : Zc cls d oe) (f : ∃ vs, oe.data = .fields vs) : ObjOk P w H h a (ErO cls d a) :=
  ⟨⟨oe, e, z, f⟩, ⟨oe, e⟩, fun _ _ ⟨o, q, r⟩ k => ⟨o, k o q, r⟩⟩
section
variable {X : Cx} {pins : List (Addr × Obj)} {σ : L2.St} {H : Hp} {s : Shared}
/-- an object that stands in the heap since the entry, seen by nobody, is written down -/
theorem inv_track {a : Addr} {φ : Heap → Prop} (I : Inv X pins σ H s) (n0 : X.s_0.heap.get? a = none) (na : H a = none) (nL : a ≠ X.env.locals) (nC : ∀ x c, X.env.cells.lookup x = some c → c ≠ a) (nP : ∀ p ∈ X.pn ++ pins, p.1 ≠ a)
    (new : ObjOk X.prog X.w (upd H a (.ext φ)) s.heap a (.ext φ)) : Inv X pins σ (upd H a (.ext φ)) s := by
  have oth : ∀ b o, H b = some o → b ≠ a := fun b o e z => by rw [z, na] at e; cases e
  have old : ∀ b o, X.s_0.heap.get? b = some o → b ≠ a := fun b o e z => by rw [z, n0] at e; cases e
  have un := I.base
  refine ⟨I.ok, I.os, I.bare, { un with free := fun b o e n hx => ?_, tups := fun b xs e => ?_, frzs := fun b o u e => ?_, tbls := fun b ps e => ?_ }, I.loc, I.cell, ?_, fun x c e => ?_, fun p hp => ?_, fun b u e => ?_, I.len⟩
  · rw [upd_ne (old b o e)]; exact un.free b o e n hx
  · have q := un.tups b xs e; rw [upd_ne (oth b _ q)]; exact q
  · have q := un.frzs b o u e; rw [upd_ne (oth b _ q)]; exact q
  · obtain ⟨m, q⟩ := un.tbls b ps e
    exact ⟨m, by rw [upd_ne (oth b _ q)]; exact q⟩
  · rw [upd_ne nL.symm]; exact I.free
  · rw [upd_ne (nC x c e)]; exact I.freeC x c e
  · obtain ⟨p1, p2, p3⟩ := I.pin p hp
    exact ⟨p1, by rw [upd_ne (nP p hp)]; exact p2, p3⟩
  · by_cases hb : b = a
    · subst hb
      rw [upd_same] at e
      cases e
      exact new
    · rw [upd_ne hb] at e
      exact (I.hok b u e).stay (fun c v _ q => q) (fun c q => by rw [upd_ne (oth c _ q)]; exact q) (fun c xs q => by rw [upd_ne (oth c _ q)]; exact q)
/-- what `except c as n` with a suite that runs through wishes: behind it the error is written down -/
def wKeep (K : PySem.W.Frag) (c : Value) (i : Nat) (ts : Addr → Value → Option Addr → TS) (D : Ends) : WX := fun cls d σ H => PySem.W.exmOne K cls c = some true ∧
  ∀ a, H a = none → ts a cls d { nx := fun σ' H' => D.nx (σ'.set i none) (upd H' a (ErO cls d a)), rt := fun _ _ => False, bk := fun _ _ => False, ct := fun _ _ => False } (σ.set i (some (.ref a))) H
/-- .. where the handlers stand -/
def onErr (X : Cx) (pins : List (Addr × Obj)) (D : Ends) (hd : ExceptHandler) : Value → Shared → Prop := fun e t1 => wpAny (model X.prog X.w) X.A (noteFrame e X.env)
  (fun _ t2 => wpAny (model X.prog X.w) X.A (setFlight e none) (fun _ t3 => wpAny (model X.prog X.w) X.A (handleBy e X.env [hd]) (SP X pins D) X.xe t3) X.xe t2) X.xe t1
variable {x n : Str} {c : Value} {i : Nat} {suite : List Stmt} {b₀ : Stmt} {np pos' : Pos} {ts : Addr → Value → Option Addr → TS} {D : Ends}
theorem keep_catch (ok : X.Ok) (hex : X.ex = []) (hs : X.stack = X.env :: X.outer) (hf : X.env.frame = some X.env.locals) (hN : X.N.Nodup) (hi : X.N[i]? = some n) (hln : X.env.kindOf n = some .local) (hc : Names X x c)
    (hsu : ∀ (a : Addr) (oe : Obj) (cls : Value) (d : Option Addr) (pn : List (Addr × Obj)), Zc cls d oe → (∃ vs, oe.data = .fields vs) → PSs (X.suite a ((a, oe) :: pn)) (b₀ :: suite) (ts a cls d)) {xe : Value → Shared → Prop} {u : Value} {s' : Shared}
    (xx : XE (X.tr (X.pn ++ pins) xe) (wKeep X.K c i ts D) u s') : onErr X pins D (.ExceptHandler (some (.Name x np)) (some n) (b₀ :: suite) pos') u s' := by
  obtain ⟨a, B, sI, qs, τ, G, cls, d, ue, J0, nb, up, sky, na, os, ag, hm, go⟩ := xx
  subst ue
  have J := J0.ofTry ok
  unfold onErr
  have fr : X.A.frames = some (X.env :: X.outer) := by rw [ok.frames, hs]
  have sky2 : Sky B (X.env :: X.outer) a (Zc cls d) X.env.locals s'.heap := hs ▸ sky
  refine Sky.land Zc.steady fr hf sky2 fun h3 fl up3 => ?_
  obtain ⟨o3, w3, g3, z3, f3⟩ := fl.there
  have noFrame : a ∉ frs (X.env :: X.outer) := fun hmem => by
    obtain ⟨_, o', g', nf⟩ := fl.2.2.1.mem hmem
    rw [g3] at g'
    cases g'
    exact nf _ f3
  have nL : a ≠ X.env.locals := fun z => noFrame (List.mem_filterMap.mpr ⟨X.env, .head _, by rw [hf, z]⟩)
  have nF : a ∉ X.fs := fun hmem => by
    obtain ⟨e, he, q⟩ := List.mem_filterMap.mp hmem
    exact noFrame (List.mem_filterMap.mpr ⟨e, .tail _ he, q⟩)
  -- it was not there ahead
  have nI : sI.heap.get? a = none := by
    cases e : sI.heap.get? a with
    | none => rfl
    | some o => have := nb a o e (by show a ∉ frs X.stack; rw [hs]; exact noFrame); rw [fl.2.1] at this; cases this
  have n0 : X.s_0.heap.get? a = none := by
    cases e : X.s_0.heap.get? a with
    | none => rfl
    | some o =>
      obtain ⟨o', q⟩ := J.base.there a o e (by rw [hex]; exact fun z => nomatch z)
      rw [nI] at q
      cases q
  have nC : ∀ y k, X.env.cells.lookup y = some k → k ≠ a := fun y k e z => by
    obtain ⟨v, o, ho, _⟩ := J.cell y k e
    rw [z, nI] at ho
    cases ho
  have nP : ∀ p ∈ X.pn ++ pins, p.1 ≠ a := fun p hp z => by
    have := (J.pin p hp).1
    rw [z, nI] at this
    cases this
  have J3 : Inv X pins τ G { s' with heap := h3 } := J.landed nb fl.1 (up.trans up3) os ag
  have S3 := J3.suite g3 f3 na nL nF
  refine wpAny_handleBy_cons (codeAny_handlers_test ?_) (by intro q; cases q)
  have lt : PySem.W.Looks (model X.prog X.w) h3 (typeOf (.ref a)) cls := fun A Q E s k q => wpAny_typeOf_ref (k _ _ g3) (z3.1.symm ▸ q)
  have lm := PySem.W.exm_one (M := model X.prog X.w) J3.kIn lt hm
  have reads : ∀ {Q : Value → Shared → Prop} {E : Value → Shared → Prop}, Q c { s' with heap := h3 } → wpAny (model X.prog X.w) (X.A.mark (some (.ref a))) (eval (.Name x np) X.env) Q E { s' with heap := h3 } := fun {Q E} q => by
    obtain ⟨h1, h2, h4 | ⟨h4, h5, h6⟩⟩ := hc
    · exact ld_glob (X := X.suite a ((a, o3) :: (X.pn ++ pins))) S3 h1 h4 q h2
    · exact ld_blt (X := X.suite a ((a, o3) :: (X.pn ++ pins))) S3 h1 h4 h5 q h6 h2
  refine reads (lm.here (codeAny_handlers_suite_as (HandSPX.lands_againZ fl fun h4 fl4 up4 => ?_)))
  have J4 : Inv X pins τ G { s' with heap := h4 } := J.landed nb fl4.1 ((up.trans up3).trans up4) os ag
  obtain ⟨o4, w4, g4, z4, f4⟩ := fl4.there
  have S4 := J4.suite g4 f4 na nL nF
  refine store_ok (X := X.suite a ((a, o4) :: (X.pn ++ pins))) (v := .ref a) S4 hN hi (.inl hln) rfl (fun s5 S5 => ?_) (.inr hln)
  refine wpAny_mono ((hsu a o4 cls d (X.pn ++ pins) z4 ⟨_, f4⟩).run [] s5 _ G _ S5 (go a na)) (fun fl6 s6 r6 => ?_) (fun _ _ z => z.elim)
  cases fl6 with
  | next =>
    obtain ⟨τ6, G6, S6, q6⟩ := r6
    obtain ⟨pa, pn6, _⟩ := S6.pin (a, o4) (List.mem_append_left _ (.head _))
    have T6 := inv_track (S6.unsuite ok) n0 pn6 nL nC nP (erO_ok (P := X.prog) (w := X.w) (H := upd G6 a (ErO cls d a)) pa z4 ⟨_, f4⟩)
    exact gone_ok T6 hN hi hln fun s7 J7 => ⟨_, _, J7, q6⟩
  | brk => obtain ⟨_, _, _, q6⟩ := r6; exact q6.elim
  | cont => obtain ⟨_, _, _, q6⟩ := r6; exact q6.elim
  | ret v => obtain ⟨_, _, _, _, _, q6⟩ := r6; exact q6.elim
theorem ps_try_keep {body : List Stmt} {pos : Pos} {tb : WX → TS} (hex : X.ex = []) (hs : X.stack = X.env :: X.outer) (hf : X.env.frame = some X.env.locals) (hN : X.N.Nodup) (hi : X.N[i]? = some n) (hln : X.env.kindOf n = some .local) (hc : Names X x c)
    (hb : ∀ (W : WX) (pn : List (Addr × Obj)) (xe : Value → Shared → Prop), Takes (X.tr pn xe) W → PassesOwn (model X.prog X.w) X.A X.env xe → PSs (X.tr pn xe) body (tb W))
    (hsu : ∀ (a : Addr) (oe : Obj) (cls : Value) (d : Option Addr) (pn : List (Addr × Obj)), Zc cls d oe → (∃ vs, oe.data = .fields vs) → PSs (X.suite a ((a, oe) :: pn)) (b₀ :: suite) (ts a cls d)) :
    PS X (.Try body [.ExceptHandler (some (.Name x np)) (some n) (b₀ :: suite) pos'] [] [] pos) (fun D σ H => tb (wKeep X.K c i ts D) D σ H) := by
  refine ⟨fun pins s σ H D I h => wpAny_Try_except ?_⟩
  have run := (hb (wKeep X.K c i ts D) (X.pn ++ pins) (onErr X pins D (.ExceptHandler (some (.Name x np)) (some n) (b₀ :: suite) pos')) (fun u s' xx => keep_catch I.ok hex hs hf hN hi hln hc hsu xx) PassesOwn.looking).run [] s σ H D (I.toTry _) h
  refine wpAny_mono run (fun f s1 r => ?_) (fun e s1 he => he)
  cases f with
  | next => obtain ⟨σ1, H1, J1, q⟩ := r; exact wpAny_execs_nil ⟨σ1, H1, J1.ofTry I.ok, q⟩
  | brk => obtain ⟨σ1, H1, J1, q⟩ := r; exact ⟨σ1, H1, J1.ofTry I.ok, q⟩
  | cont => obtain ⟨σ1, H1, J1, q⟩ := r; exact ⟨σ1, H1, J1.ofTry I.ok, q⟩
  | ret u => obtain ⟨v, σ1, H1, J1, rv, q⟩ := r; exact ⟨v, σ1, H1, J1.ofTry I.ok, rv, q⟩
end
/-! ## what is asked of a kept error -/
def IsErrT (K : PySem.W.Frag) (D a : Addr) (v : V) (H : Hp) : Prop := ExcC K D ∧ ∃ dd, H a = some (ErO (.ref D) (some dd) a) ∧ H dd = some (.xd [(("value" : Str), v)])
theorem IsErrT.same {K : PySem.W.Frag} {D a : Addr} {v : V} {H H' : Hp} (h : IsErrT K D a v H) (s : Same H H') : IsErrT K D a v H' := by
  obtain ⟨c, dd, h1, h2⟩ := h
  exact ⟨c, dd, s _ _ h1, s _ _ h2⟩
section
variable {X : Cx} {pins : List (Addr × Obj)} {σ : L2.St} {H : Hp} {s : Shared}
theorem errT_inst {D a : Addr} {v : V} (I : Inv X pins σ H s) (h : IsErrT X.K D a v H) : ∃ oe od dd, PySem.W.InstAt s.heap a oe D (some od) ∧ H dd = some (.xd [(("value" : Str), v)]) ∧ oe.dict = some dd ∧ s.heap.get? dd = some od := by
  obtain ⟨_, dd, ha, hd⟩ := h
  have x1 : ObjOk X.prog X.w H s.heap a (ErO (.ref D) (some dd) a) := I.hok a _ ha
  obtain ⟨⟨oe, h1, hz, vs, hf⟩, _⟩ := x1
  have x2 : ObjOk X.prog X.w H s.heap dd (.xd [(("value" : Str), v)]) := I.hok dd _ hd
  obtain ⟨mA, hns, _⟩ := x2
  obtain ⟨od, ho, _⟩ := lookIn_ns hns
  obtain ⟨z1, z2⟩ := hz
  exact ⟨oe, od, dd, ⟨h1, z1, by unfold PySem.W.notCls; rw [hf] <;> rfl, by rw [z2]; exact ho⟩, hd, z2, ho⟩
def rIsT (K : PySem.W.Frag) : List V → Hp → VK → Prop := fun xs H Q => ∃ (a D : Addr) (v c : V) (cv : Value) (b : Bool), xs = [.ref a, c] ∧ IsErrT K D a v H ∧ ClsV c cv ∧ PySem.W.kitOne K (.ref D) cv = some b ∧ Q (.bl b) H
theorem call_isT : CallR X (.builtin "isinstance") (rIsT X.K) := by
  intro pins s σ H xs us Q I r h
  obtain ⟨a, D, v, c, cv, b, rfl, he, hcv, e, q⟩ := h
  obtain ⟨u1, u2, rfl, r1, r2⟩ := vals2 r
  cases (show u1 = Value.ref a from r1)
  have e2 := hcv.eq r2
  subst e2
  obtain ⟨oe, od, dd, J, _⟩ := errT_inst I he
  exact PySem.W.kia_one (kit_err he.1) I.kIn J e (fun z => nomatch z) fun tk => ⟨.bl b, H, I.kept (t' := tk) fun _ _ z => z, rfl, q⟩
def rIsTT (K : PySem.W.Frag) : List V → Hp → VK → Prop := fun xs H Q => ∃ (a D tp : Addr) (v : V) (cs : List V) (ws : List Value) (b : Bool), xs = [.ref a, .ref tp] ∧ IsErrT K D a v H ∧ H tp = some (.tup cs) ∧ Paired ClsV cs ws ∧ PySem.W.kitAny K (.ref D) ws = some b ∧ Q (.bl b) H
theorem call_isTT : CallR X (.builtin "isinstance") (rIsTT X.K) := by
  intro pins s σ H xs us Q I r h
  obtain ⟨a, D, tp, v, cs, ws, b, rfl, he, hT, k, e, q⟩ := h
  obtain ⟨u1, u2, rfl, r1, r2⟩ := vals2 r
  cases (show u1 = Value.ref a from r1)
  cases (show u2 = Value.ref tp from r2)
  obtain ⟨oe, od0, dd, J, _⟩ := errT_inst I he
  obtain ⟨_, its, rv, o, h1, h2, n, h3⟩ := (show ObjOk X.prog X.w H s.heap tp (.tup cs) from I.hok tp _ hT)
  have e3 := ClsV.all k rv
  subst e3
  obtain ⟨oc, od', dt, sl⟩ := o
  simp only at h2 h3
  subst h2 h3
  exact PySem.W.kia_tup (kit_err he.1) I.kIn J h1 e (fun z => nomatch z) fun tk => ⟨.bl b, H, I.kept (t' := tk) fun _ _ z => z, rfl, q⟩
/-- e.value of a kept error -/
def tValOfT (P : Program) (K : PySem.W.Frag) (mg : Str → Option Value) (te : TE) : TE := fun σ H Q => te σ H fun x H1 => ∃ (a : Addr) (xn : Str) (C fI : Addr) (v : V), x = .ref a ∧ PySem.VeX.VeTxt P K mg xn C fI ∧ IsErrT K C a v H1 ∧ Q v H1
theorem pe_valOfT {e : Expr} {te : TE} {pos : Pos} (he : PE X e te) (hb : attributeBase e "value" X.env (eval e X.env) = eval e X.env := by rfl) : PE X (.Attribute e "value" pos) (tValOfT X.prog X.K X.mg te) := by
  refine ⟨fun pins s σ H Q I h => attr_of hb (thn (he.run pins s σ H _ I h) fun u s1 hh => ?_)⟩
  obtain ⟨x, H1, I1, rx, a, xn, C, fI, v, ex, T, ie, q⟩ := hh
  subst ex
  obtain rfl : u = Value.ref a := rx
  obtain ⟨oe, od, dd, J, hd, _, ho⟩ := errT_inst I1 ie
  have x2 : ObjOk X.prog X.w H1 s1.heap dd (.xd [(("value" : Str), v)]) := I1.hok dd _ hd
  obtain ⟨mA, hns, hr⟩ := x2
  obtain ⟨od2, ho2, hl⟩ := lookIn_ns hns
  rw [ho] at ho2
  cases ho2
  have l : List.lookup ("value" : Str) [(("value" : Str), v)] = some v := by simp [List.lookup]
  obtain ⟨w, hu, ru⟩ := RelO.some_of (v := v) (o := mA "value") (by rw [← l]; exact hr "value")
  exact HandSPX.exc_get I1.kIn J T.ga T.gg T.exC (PySem.W.findObj_own T.hdC T.noN rfl (by rw [hl, hu])) (handed_of ru) ⟨v, H1, I1.tok _, ru, q⟩
end
/-! ## making and asking an instance where what is raised is wished for at the caller's slots -/
section
variable {X : Cx} {CX : CXT} {k : Nat} {f C : Addr} {fd : FuncData} {ps : List Str} {sp : Sp} {dvs : List V} {ds : List Value} {E : L2.St → XK} {x m : Str} {p pos apos : Pos} {e o : Expr} {es : List Expr} {ta : TE} {t : TA}
theorem run_makeS {pins : List (Addr × Obj)} {σ : L2.St} {H : Hp} {s : Shared} {Q : VK} {us : List Value} {vs : List V} (M : Mk X.K C f) (F : FnOk X.prog X.w X.K X.mg X.base CX k f fd ps sp) (hr : Room (k + 1) X.A) (hb : Binds X.K fd ps ds) (hd : Vals dvs ds) (hx : PassesAt CX X σ (E σ)) (I : Inv X pins σ H s) (r : Vals vs us)
    (h : ∀ x dx, H x = none → H dx = none → dx ≠ x → sp (.ref x :: (vs ++ dvs)) (upd (upd H dx (.own x)) x (.ins C dx [])) (fun v H2 => v = .non ∧ Q (.ref x) H2) (E σ)) : wpAny (model X.prog X.w) X.A (call (.ref C) us) (EP X pins σ Q) X.xe s := by
  generalize hn : s.heap.objs.size = n at *
  have f0 : H n = none := I.hok.fresh (Nat.le_of_eq hn)
  have f1 : H (n + 1) = none := I.hok.fresh (Nat.le_trans (Nat.le_of_eq hn) (Nat.le_succ n))
  have go := h (n + 1) n f1 f0 (Nat.ne_of_lt (Nat.lt_succ_self n))
  subst hn
  have J := Inv.made (C := C) I
  have rr : Vals (V.ref (s.heap.objs.size + 1) :: (vs ++ dvs)) (Value.ref (s.heap.objs.size + 1) :: (us ++ ds)) := .cons rfl (r.append hd)
  have ln : (Value.ref (s.heap.objs.size + 1) :: us ++ ds).length = ps.length := (rr.length.symm.trans (F.len _ _ _ _ go) : _)
  have body := F.run _ X.stack _ _ ⟨Value.ref (s.heap.objs.size + 1) :: us, []⟩ (Value.ref (s.heap.objs.size + 1) :: (us ++ ds)) _ _ (E σ) (hr.make C us []) (J.env0.make C us []) (hb _ (Value.ref (s.heap.objs.size + 1) :: us) J.kIn ln) rr go
  refine wpAny_call (make_map (f := f) I.kIn M.makes M.init (beq_iff_eq.mp M.fn) (codeAny_mono body fun res s' hres => ?_))
  match res, hres with
  | .error z, hres => exact hx pins _ _ z s' J hres
  | .ok (.ret u), hres =>
    obtain ⟨v, H', I3, rv, ev, q3⟩ := J.after hres
    subst ev
    exact ⟨rv, ⟨V.ref (s.heap.objs.size + 1), H', I3, rfl, q3⟩⟩
  | .ok .next, hres => exact hres.elim
  | .ok .brk, hres => exact hres.elim
  | .ok .cont, hres => exact hres.elim
def tMakeS (C : Addr) (sp : Sp) (dvs : List V) (E : L2.St → XK) (t : TA) : TE := fun σ H Q => t σ H fun vs H1 => ∀ x dx, H1 x = none → H1 dx = none → dx ≠ x → sp (.ref x :: (vs ++ dvs)) (upd (upd H1 dx (.own x)) x (.ins C dx [])) (fun v H2 => v = .non ∧ Q (.ref x) H2) (E σ)
theorem pe_makeS (M : Mk X.K C f) (F : FnOk X.prog X.w X.K X.mg X.base CX k f fd ps sp) (hr : Room (k + 1) X.A) (hg : Gl X x) (hm : X.mg x = some (.ref C)) (hb : Binds X.K fd ps ds) (hd : Vals dvs ds) (hx : ∀ σ, PassesAt CX X σ (E σ)) (ha : PA X (e :: es) t)
    (hdb : (x == ("__debug__" : Str)) = false := by decide) (hse : starEach (e :: es) X.env = (false, eval e X.env) :: starEach es X.env := by rfl) (hpn : (backTo pos (starEach es X.env)).any (·.1) = false := by rfl) :
    PE X (.Call (.Name x p) (e :: es) [] pos) (tMakeS C sp dvs E t) :=
  ⟨fun pins s σ H Q I h => wpAny_Call_Name_kw (ld_glob I hg hm (PySem.W.callWith_K (h₀ := X.base) I.ok.mod.kin M.kp (thn (ha.run pos pins s σ H _ I h) fun _ _ ⟨_, _, I1, r, q⟩ => ⟨I1.kIn, run_makeS M F hr hb hd (hx σ) I1 r q⟩) hse hpn) hdb)⟩
def tMethS' (C : Addr) (m : Str) (sp : Sp) (dvs : List V) (E : L2.St → XK) (ta : TE) (t : TA) : TE := fun σ H Q => ta σ H fun x H1 => ∃ a dx fs, x = .ref a ∧ H1 a = some (.ins C dx fs) ∧ fs.lookup m = none ∧ t σ H1 fun vs H2 => sp (.ref a :: (vs ++ dvs)) H2 Q (E σ)
theorem pe_methS {pl : Sem Bool} (he : PE X o ta) (c : Cls X.K C) (hm : Meth X.K C m f) (F : FnOk X.prog X.w X.K X.mg X.base CX k f fd ps sp) (hr : Room k X.A) (hb : Binds X.K fd ps ds) (hd : Vals dvs ds) (hx : ∀ σ, PassesAt CX X σ (E σ)) (ha : PA X (e :: es) t)
    (hse : starEach (e :: es) X.env = (false, eval e X.env) :: starEach es X.env := by rfl) (hpn : (backTo pos (starEach es X.env)).any (·.1) = false := by rfl)
    (ht : eval (.Call (.Attribute o m apos) (e :: es) [] pos) X.env = (do let ov ← eval o X.env; standAt apos.atName; let (f, first) ← holding [ov] (getMethod ov m pl); callWith pos f first (backTo pos (starEach (e :: es) X.env)) (backToKw pos (keywordEach [] X.env))) := by rfl) :
    PE X (.Call (.Attribute o m apos) (e :: es) [] pos) (tMethS' C m sp dvs E ta t) := by
  refine ⟨fun pins s σ H Q I h => PySem.W.methodCall_KW (pl := pl) (thn (he.run pins s σ H _ I h) fun u s1 ⟨x, H1, I1, rx, a, dx, fs, ex, ea, l, q⟩ => ?_) ht⟩
  subst ex
  obtain rfl : u = Value.ref a := rx
  exact getmeth_ok I1 ea c hm l (PySem.W.callWith_K (first := [.ref a]) (h₀ := X.base) I.ok.mod.kin hm.kp (thn (ha.run pos pins s1 σ H1 _ I1 q) fun us s2 ⟨vs, H2, I2, r, q2⟩ => ⟨I2.kIn, run_fnSD (us := .ref a :: us) (vs := .ref a :: vs) F hr hb hd (hx σ) I2 (.cons rfl r) q2⟩) hse hpn)
theorem pe_methS0 {pl : Sem Bool} (he : PE X o ta) (c : Cls X.K C) (hm : Meth X.K C m f) (F : FnOk X.prog X.w X.K X.mg X.base CX k f fd ps sp) (hr : Room k X.A) (hb : Binds X.K fd ps ds) (hd : Vals dvs ds) (hx : ∀ σ, PassesAt CX X σ (E σ))
    (ht : eval (.Call (.Attribute o m apos) [] [] pos) X.env = (do let ov ← eval o X.env; standAt apos.atName; let (f, first) ← holding [ov] (getMethod ov m pl); callWith pos f first (backTo pos (starEach [] X.env)) (backToKw pos (keywordEach [] X.env))) := by rfl) :
    PE X (.Call (.Attribute o m apos) [] [] pos) (tMethS' C m sp dvs E ta tNil) := by
  refine ⟨fun pins s σ H Q I h => PySem.W.methodCall_KW (pl := pl) (thn (he.run pins s σ H _ I h) fun u s1 ⟨x, H1, I1, rx, a, dx, fs, ex, ea, l, q⟩ => ?_) ht⟩
  subst ex
  obtain rfl : u = Value.ref a := rx
  exact getmeth_ok I1 ea c hm l (PySem.W.callWith_K0 (first := [.ref a]) I1.kIn hm.kp (run_fnSD (us := [.ref a]) (vs := [.ref a]) F hr hb hd (hx σ) I1 (.cons rfl .nil) q))
end
end Rn

set_option Elab.async false
set_option linter.all false
set_option maxRecDepth 100000
set_option maxHeartbeats 4000000
namespace Rn
open PySem PySem.Spec PyProof.Rows L2
/-! # powers and roots -/
/-- a list of waits nested t times in itself -/
def repN (ws : List Int) : Nat → List Int
  | 0 => []
  | t + 1 => nestL (repN ws t) ws
def powL (xs : List Lay) (t : Nat) : List Lay := mergeL (List.replicate t xs).flatten
def powJ (xs : List Lay) : Nat → List Lay
  | 0 => []
  | t + 1 => joinL (powJ xs t) xs
theorem powJ_ok {xs : List Lay} (h : NF xs) : ∀ t, NF (powJ xs t) ∧ flatL (powJ xs t) = repN (flatL xs) t
  | 0 => ⟨nf_nil, rfl⟩
  | t + 1 => by
    obtain ⟨a, b⟩ := powJ_ok h t
    obtain ⟨c, d⟩ := join_ok a h
    exact ⟨c, by show flatL (joinL (powJ xs t) xs) = _; rw [d, b]; rfl⟩
theorem rep_nf {xs : List Lay} (h : ∀ L ∈ xs, L.nf) (t : Nat) : ∀ L ∈ (List.replicate t xs).flatten, L.nf := fun L hL => by
  obtain ⟨l, h1, h2⟩ := List.mem_flatten.mp hL
  rw [(List.mem_replicate.mp h1).2] at h2
  exact h L h2
theorem rep_snoc {α : Type} (xs : List α) (t : Nat) : (List.replicate (t + 1) xs).flatten = (List.replicate t xs).flatten ++ xs := by
  rw [List.replicate_succ', List.flatten_append, List.flatten_cons, List.flatten_nil, List.append_nil]
theorem flat_rep {xs : List Lay} (h : ∀ L ∈ xs, L.ok = true) : ∀ t, flatL (List.replicate t xs).flatten = repN (flatL xs) t
  | 0 => rfl
  | t + 1 => by
    rw [rep_snoc, flat_app _ h, flat_rep h t]
    · rfl
    · intro L hL
      obtain ⟨l, h1, h2⟩ := List.mem_flatten.mp hL
      rw [(List.mem_replicate.mp h1).2] at h2
      exact h L h2
theorem powL_ok {xs : List Lay} (h : NF xs) (t : Nat) : NF (powL xs t) ∧ flatL (powL xs t) = repN (flatL xs) t := by
  obtain ⟨a, b⟩ := merge_ok (rep_nf h.1 t)
  exact ⟨a, b.trans (flat_rep h.oks t)⟩
theorem powL_J {xs : List Lay} (h : NF xs) (t : Nat) : powL xs t = powJ xs t := by
  obtain ⟨a, b⟩ := powL_ok h t
  obtain ⟨c, d⟩ := powJ_ok h t
  exact nf_unique a c (b.trans d.symm)
theorem repN_len (ws : List Int) : ∀ t, (repN ws t).length + 1 = (ws.length + 1) ^ t
  | 0 => rfl
  | t + 1 => by
    show (nestL (repN ws t) ws).length + 1 = _
    rw [nestL_len, repN_len ws t, Nat.pow_succ]
theorem repN_add (ws : List Int) (s : Nat) : ∀ t, repN ws (s + t) = nestL (repN ws s) (repN ws t)
  | 0 => (nestL_nil _).symm
  | t + 1 => by
    show nestL (repN ws (s + t)) ws = nestL (repN ws s) (nestL (repN ws t) ws)
    rw [repN_add ws s t, nestL_assoc]
/-! shapes of powers -/
theorem powJ_con (w : Int) (n : Int) : ∀ t, powJ [.con w n] (t + 1) = [.con w (n ^ (t + 1))]
  | 0 => by
    show joinL [] [Lay.con w n] = _
    rw [nil_join, Int.pow_one]
  | t + 1 => by
    show joinL (powJ [.con w n] (t + 1)) [.con w n] = _
    rw [powJ_con w n t]
    have := join_seam [] w (n ^ (t + 1)) n []
    rw [← Int.pow_succ] at this
    exact this
theorem powJ_free {xs : List Lay} (hs : ¬ Seam xs xs) (h0 : xs ≠ []) : ∀ t, powJ xs t = (List.replicate t xs).flatten
  | 0 => rfl
  | t + 1 => by
    show joinL (powJ xs t) xs = _
    rw [powJ_free hs h0 t, rep_snoc]
    refine join_plain ?_
    rintro ⟨A, w, n, m, B, e1, e2⟩
    cases t with
    | zero => simp at e1
    | succ t =>
      rw [rep_snoc] at e1
      obtain ⟨ys, y, rfl⟩ : ∃ ys y, xs = ys ++ [y] := ⟨_, _, (List.dropLast_concat_getLast h0).symm⟩
      rw [← List.append_assoc] at e1
      have := (List.append_inj' e1 rfl).2
      cases this
      exact hs ⟨ys, w, n, m, B, rfl, e2⟩
theorem powJ_seam (w b a : Int) (M : List Lay) : ∀ t, powJ (.con w b :: (M ++ [.con w a])) (t + 1) = .con w b :: ((List.replicate t (M ++ [.con w (a * b)])).flatten ++ (M ++ [.con w a]))
  | 0 => rfl
  | t + 1 => by
    show joinL (powJ (.con w b :: (M ++ [.con w a])) (t + 1)) (.con w b :: (M ++ [.con w a])) = _
    rw [powJ_seam w b a M t]
    have := join_seam (.con w b :: ((List.replicate t (M ++ [.con w (a * b)])).flatten ++ M)) w a b (M ++ [.con w a])
    rw [show (Lay.con w b :: ((List.replicate t (M ++ [.con w (a * b)])).flatten ++ M)) ++ [.con w a] = .con w b :: ((List.replicate t (M ++ [.con w (a * b)])).flatten ++ (M ++ [.con w a])) by rw [List.cons_append, List.append_assoc]] at this
    rw [this, rep_snoc]
    rw [List.cons_append, List.append_assoc, List.append_assoc, List.append_assoc]
    rfl
theorem flatten_len {α : Type} (xs : List α) : ∀ t, (List.replicate t xs).flatten.length = t * xs.length
  | 0 => by simp
  | t + 1 => by rw [rep_snoc, List.length_append, flatten_len xs t, Nat.succ_mul]
/-- kinds of normal forms as bases of powers -/
theorem base_cases {xs : List Lay} (h : NF xs) (h0 : xs ≠ []) : (∃ w n, xs = [.con w n]) ∨ (∃ w b a M, xs = .con w b :: (M ++ [.con w a])) ∨ (¬ Seam xs xs ∧ ∀ w n, xs ≠ [.con w n]) := by
  by_cases s : Seam xs xs
  · obtain ⟨A, w, n, m, B, e1, e2⟩ := s
    cases A with
    | nil => exact .inl ⟨w, n, e1⟩
    | cons a A =>
      rw [e2] at e1
      injection e1 with e3 e4
      refine .inr (.inl ⟨w, m, n, A, ?_⟩)
      rw [e2, e4]
      rfl
  · exact .inr (.inr ⟨s, fun w n e => s ⟨[], w, n, n, [], e, e⟩⟩)
/-- what the program takes for the root -/
def guessL (ls : List Lay) (k : Nat) : List Lay := ls.take k ++ ls.drop (ls.length - 1)
theorem drop_last {α : Type} (A : List α) (x : α) : (A ++ [x]).drop ((A ++ [x]).length - 1) = [x] := by
  rw [List.length_append, List.length_singleton, Nat.add_sub_cancel, List.drop_left]
theorem root_guess {xs : List Lay} (h : NF xs) (h0 : xs ≠ []) {t : Nat} (ht : 1 ≤ t) (hc : ∀ w n, powJ xs t ≠ [.con w n]) :
    1 ≤ (powJ xs t).length / t ∧ (powJ xs t).length % t ≤ 1 ∧ guessL (powJ xs t) ((powJ xs t).length / t + (powJ xs t).length % t - 1) = xs := by
  obtain ⟨u, rfl⟩ : ∃ u, t = u + 1 := ⟨t - 1, by omega⟩
  rcases base_cases h h0 with ⟨w, n, rfl⟩ | ⟨w, b, a, M, rfl⟩ | ⟨hs, _⟩
  · exact absurd (powJ_con w n u) (hc _ _)
  · rw [powJ_seam]
    have hl : (Lay.con w b :: ((List.replicate u (M ++ [Lay.con w (a * b)])).flatten ++ (M ++ [.con w a]))).length = 1 + (u + 1) * (M.length + 1) := by
      rw [List.length_cons, List.length_append, flatten_len, List.length_append, List.length_append, List.length_singleton, List.length_singleton, Nat.succ_mul]
      omega
    have edl : (Lay.con w b :: ((List.replicate u (M ++ [Lay.con w (a * b)])).flatten ++ (M ++ [.con w a]))).drop ((Lay.con w b :: ((List.replicate u (M ++ [Lay.con w (a * b)])).flatten ++ (M ++ [.con w a]))).length - 1) = [.con w a] := by
      have := drop_last (Lay.con w b :: ((List.replicate u (M ++ [Lay.con w (a * b)])).flatten ++ M)) (.con w a)
      rw [List.cons_append, List.append_assoc] at this
      exact this
    unfold guessL
    rw [edl, hl]
    cases u with
    | zero =>
      rw [Nat.zero_add, Nat.div_one, Nat.mod_one, Nat.one_mul, List.replicate_zero, List.flatten_nil, List.nil_append]
      refine ⟨by omega, by omega, ?_⟩
      rw [show 1 + (M.length + 1) + 0 - 1 = M.length + 1 by omega, List.take_succ_cons, List.take_left]
      rfl
    | succ v =>
      have e1 : (1 + (v + 1 + 1) * (M.length + 1)) / (v + 1 + 1) = M.length + 1 := by
        rw [Nat.add_mul_div_left _ _ (by omega), Nat.div_eq_of_lt (by omega), Nat.zero_add]
      have e2 : (1 + (v + 1 + 1) * (M.length + 1)) % (v + 1 + 1) = 1 := by
        rw [Nat.add_mul_mod_self_left, Nat.mod_eq_of_lt (by omega)]
      rw [e1, e2]
      refine ⟨by omega, Nat.le_refl _, ?_⟩
      rw [show M.length + 1 + 1 - 1 = M.length + 1 by omega, List.take_succ_cons]
      rw [List.replicate_succ, List.flatten_cons, List.append_assoc, List.append_assoc, List.take_left]
      rfl
  · rw [powJ_free hs h0]
    have hl := flatten_len xs (u + 1)
    have s1 : 0 < xs.length := List.length_pos_iff.mpr h0
    have e1 : (List.replicate (u + 1) xs).flatten.length / (u + 1) = xs.length := by rw [hl]; exact Nat.mul_div_cancel_left _ (by omega)
    have e2 : (List.replicate (u + 1) xs).flatten.length % (u + 1) = 0 := by rw [hl]; exact Nat.mul_mod_right _ _
    rw [e1, e2]
    refine ⟨s1, by omega, ?_⟩
    unfold guessL
    obtain ⟨ys, y, rfl⟩ : ∃ ys y, xs = ys ++ [y] := ⟨_, _, (List.dropLast_concat_getLast h0).symm⟩
    have e3 : (List.replicate (u + 1) (ys ++ [y])).flatten.drop ((List.replicate (u + 1) (ys ++ [y])).flatten.length - 1) = [y] := by
      rw [rep_snoc, ← List.append_assoc]
      exact drop_last _ y
    rw [e3, List.length_append, List.length_singleton, show ys.length + 1 + 0 - 1 = ys.length by omega, List.replicate_succ, List.flatten_cons, List.append_assoc, List.take_left]
/-- the power of a guess that is no normal form is shorter -/
theorem pow_short {xs : List Lay} (h : ∀ L ∈ xs, L.nf) (t : Nat) : (powL xs t).length ≤ t * (mergeL xs).length := by
  obtain ⟨a, b⟩ := merge_ok h
  have e : powL xs t = powJ (mergeL xs) t := by
    obtain ⟨c, d⟩ := merge_ok (rep_nf h t)
    obtain ⟨e, f⟩ := powJ_ok a t
    refine nf_unique c e ?_
    rw [f, b]
    exact d.trans (flat_rep (fun L hL => (h L hL).ok) t)
  rw [e]
  induction t with
  | zero => exact Nat.zero_le _
  | succ t ih =>
    have e2 : powL xs t = powJ (mergeL xs) t := by
      obtain ⟨c, d⟩ := merge_ok (rep_nf h t)
      obtain ⟨e, f⟩ := powJ_ok a t
      refine nf_unique c e ?_
      rw [f, b]
      exact d.trans (flat_rep (fun L hL => (h L hL).ok) t)
    have := ih e2
    show (joinL (powJ (mergeL xs) t) (mergeL xs)).length ≤ _
    rw [Nat.succ_mul]
    rcases join_or (powJ (mergeL xs) t) (mergeL xs) with ⟨A, w, n, m, B, e1, e2, e3⟩ | ⟨_, e3⟩
    · rw [e3]
      have l1 := congrArg List.length e1
      have l2 := congrArg List.length e2
      rw [List.length_append, List.length_singleton] at l1
      rw [List.length_cons] at l2
      rw [List.length_append, List.length_cons]
      omega
    · rw [e3, List.length_append]
      omega
theorem merge_seam {A B : List Lay} (hA : NF A) (hB : NF B) (s : Seam A B) : (mergeL (A ++ B)).length + 1 = A.length + B.length := by
  rw [merge_join hA hB]
  obtain ⟨C, w, n, m, D, rfl, rfl⟩ := s
  rw [join_seam]
  simp only [List.length_append, List.length_cons, List.length_nil]
  omega
/-- a guess that passes the program's check is a normal form -/
theorem guess_nf {ls : List Lay} (h : NF ls) (h0 : ls ≠ []) {t : Nat} (ht : 1 ≤ t) (h1 : 1 ≤ ls.length / t) (h2 : ls.length % t ≤ 1) (e : powL (guessL ls (ls.length / t + ls.length % t - 1)) t = ls) :
    NF (guessL ls (ls.length / t + ls.length % t - 1)) := by
  obtain ⟨A, x, rfl⟩ : ∃ A x, ls = A ++ [x] := ⟨_, _, (List.dropLast_concat_getLast h0).symm⟩
  have dm := Nat.div_add_mod (A ++ [x]).length t
  have hlen : (A ++ [x]).length = A.length + 1 := by rw [List.length_append, List.length_singleton]
  generalize hs : (A ++ [x]).length / t = s at *
  generalize hr : (A ++ [x]).length % t = r at *
  have st : s ≤ t * s := Nat.le_mul_of_pos_left _ ht
  have kle : s + r - 1 ≤ A.length := by omega
  unfold guessL at e ⊢
  rw [drop_last] at e ⊢
  rw [List.take_append_of_le_length kle] at e ⊢
  obtain ⟨nA, nx, _⟩ := h.app
  have nk : NF (A.take (s + r - 1)) := by
    have : A = A.take (s + r - 1) ++ A.drop (s + r - 1) := (List.take_append_drop _ _).symm
    rw [this] at nA
    exact nA.app.1
  by_cases sm : Seam (A.take (s + r - 1)) [x]
  · exfalso
    have l1 := merge_seam nk nx sm
    have l2 := pow_short (xs := A.take (s + r - 1) ++ [x]) (fun L hL => (List.mem_append.mp hL).elim (nk.1 L) (nx.1 L)) t
    rw [e, hlen] at l2
    rw [List.length_take, List.length_singleton, Nat.min_eq_left kle] at l1
    have l3 : (mergeL (A.take (s + r - 1) ++ [x])).length = s + r - 1 := by omega
    rw [l3] at l2
    have hk : 1 ≤ s + r - 1 := by
      obtain ⟨B, w, n, m, C, e1, _⟩ := sm
      have := congrArg List.length e1
      rw [List.length_append, List.length_singleton, List.length_take, Nat.min_eq_left kle] at this
      omega
    rcases Nat.eq_zero_or_pos r with z | z
    · subst z
      have : t * (s + 0 - 1) + t = t * s := by
        rw [← Nat.mul_succ]
        congr 1
        omega
      omega
    · have : r = 1 := by omega
      subst this
      rw [show s + 1 - 1 = s by omega] at l2
      omega
  · exact nf_app nk nx sm
/-! whole roots of numbers -/
theorem am_gm (r x : Int) (hr : 0 ≤ r) (hx : 0 ≤ x) : ∀ t : Nat, ((t : Int) + 1) * r * x ^ t ≤ r ^ (t + 1) + (t : Int) * x ^ (t + 1)
  | 0 => by
    simp
    rw [Int.pow_one]
    exact Int.le_refl _
  | t + 1 => by
    have ih := am_gm r x hr hx t
    have h1 : ((t : Int) + 1) * r * x ^ t * r ≤ (r ^ (t + 1) + (t : Int) * x ^ (t + 1)) * r := Int.mul_le_mul_of_nonneg_right ih hr
    have h2 : 0 ≤ ((t : Int) + 1) * x ^ t * ((r - x) * (r - x)) := by
      refine Int.mul_nonneg (Int.mul_nonneg (by omega) (Int.pow_nonneg hx)) ?_
      rcases Int.le_total r x with z | z
      · have e : (r - x) * (r - x) = (x - r) * (x - r) := by
          rw [show r - x = -(x - r) by omega, Int.neg_mul_neg]
        rw [e]
        exact Int.mul_nonneg (by omega) (by omega)
      · exact Int.mul_nonneg (by omega) (by omega)
    have e1 : ((t : Int) + 1) * x ^ t * ((r - x) * (r - x)) = ((t : Int) + 1) * r * x ^ t * r - 2 * (((t : Int) + 1) * (r * x ^ (t + 1))) + ((t : Int) + 1) * x ^ (t + 2) := by
      rw [Int.pow_succ x (t + 1), Int.pow_succ x t]
      generalize x ^ t = y
      generalize (t : Int) + 1 = c
      rw [Int.sub_mul, Int.mul_sub, Int.mul_sub, Int.mul_sub, Int.mul_sub, Int.mul_sub]
      have a1 : c * y * (r * r) = c * r * y * r := by
        rw [Int.mul_assoc c y, Int.mul_assoc c r, Int.mul_assoc c, ← Int.mul_assoc y r r, Int.mul_comm y r]
      have a2 : c * y * (r * x) = c * (r * (y * x)) := by
        rw [Int.mul_assoc, ← Int.mul_assoc y r x, Int.mul_comm y r, Int.mul_assoc r y x]
      have a3 : c * y * (x * r) = c * (r * (y * x)) := by rw [Int.mul_comm x r, a2]
      have a4 : c * y * (x * x) = c * (y * x * x) := by rw [Int.mul_assoc, Int.mul_assoc y x x]
      rw [a1, a2, a3, a4]
      omega
    rw [e1] at h2
    have e2 : (r ^ (t + 1) + (t : Int) * x ^ (t + 1)) * r = r ^ (t + 2) + (t : Int) * (r * x ^ (t + 1)) := by
      rw [Int.add_mul, ← Int.pow_succ, Int.mul_assoc, Int.mul_comm (x ^ (t + 1)) r]
    rw [e2] at h1
    have e3 : (((t + 1 : Nat) : Int) + 1) * r * x ^ (t + 1) = ((t : Int) + 1) * (r * x ^ (t + 1)) + r * x ^ (t + 1) := by
      rw [Int.mul_assoc, show ((t + 1 : Nat) : Int) = (t : Int) + 1 by omega, Int.add_mul, Int.one_mul]
    have e4 : ((t + 1 : Nat) : Int) * x ^ (t + 1 + 1) = ((t : Int) + 1) * x ^ (t + 2) := by rw [show ((t + 1 : Nat) : Int) = (t : Int) + 1 by omega]
    have e5 : ((t : Int) + 1) * (r * x ^ (t + 1)) = (t : Int) * (r * x ^ (t + 1)) + r * x ^ (t + 1) := by rw [Int.add_mul, Int.one_mul]
    rw [e3, e4]
    show _ ≤ r ^ (t + 2) + _
    generalize r * x ^ (t + 1) = u at *
    generalize x ^ (t + 2) = v at *
    generalize r ^ (t + 2) = z at *
    generalize ((t : Int) + 1) * v = v' at *
    generalize (t : Int) * u = u' at *
    generalize ((t : Int) + 1) * r * x ^ t * r = y at *
    omega
/-- Newton's step -/
def newt (N : Int) (t : Nat) (x : Int) : Int := (((t : Int) - 1) * x + N / x ^ (t - 1)) / (t : Int)
theorem newt_ge {N r x : Int} {t : Nat} (ht : 1 ≤ t) (hr : 0 ≤ r) (hx : 1 ≤ x) (h : r ^ t ≤ N) : r ≤ newt N t x := by
  obtain ⟨u, rfl⟩ : ∃ u, t = u + 1 := ⟨t - 1, by omega⟩
  unfold newt
  rw [Nat.add_sub_cancel]
  have px : 0 < x ^ u := Int.pow_pos (by omega)
  rw [Int.le_ediv_iff_mul_le (by omega)]
  have ag := am_gm r x hr (by omega) u
  have key : (((u : Int) + 1) * r - (u : Int) * x) * x ^ u ≤ N := by
    rw [Int.sub_mul]
    have e : (u : Int) * x * x ^ u = (u : Int) * x ^ (u + 1) := by rw [Int.mul_assoc, Int.pow_succ, Int.mul_comm x]
    rw [e]
    omega
  have := (Int.le_ediv_iff_mul_le px).mpr key
  have e2 : ((u + 1 : Nat) : Int) = (u : Int) + 1 := by omega
  rw [e2, show (u : Int) + 1 - 1 = (u : Int) by omega, Int.mul_comm r]
  omega
theorem newt_lt {N r x : Int} {t : Nat} (ht : 1 ≤ t) (hr : 0 ≤ r) (hx : r < x) (h : N < (r + 1) ^ t) (hN : 0 ≤ N) : newt N t x < x := by
  obtain ⟨u, rfl⟩ : ∃ u, t = u + 1 := ⟨t - 1, by omega⟩
  unfold newt
  rw [Nat.add_sub_cancel]
  have px : 0 < x ^ u := Int.pow_pos (by omega)
  have h2 : (r + 1) ^ (u + 1) ≤ x ^ (u + 1) := by
    have : ∀ n : Nat, (r + 1) ^ n ≤ x ^ n := fun n => by
      induction n with
      | zero => simp
      | succ n ih =>
        rw [Int.pow_succ, Int.pow_succ]
        exact Int.mul_le_mul ih (by omega) (by omega) (Int.pow_nonneg (by omega))
    exact this _
  have h3 : N / x ^ u < x := by
    rw [Int.ediv_lt_iff_lt_mul px, Int.mul_comm, ← Int.pow_succ]
    exact Int.lt_of_lt_of_le h h2
  rw [Int.ediv_lt_iff_lt_mul (by omega)]
  have e2 : ((u + 1 : Nat) : Int) = (u : Int) + 1 := by omega
  rw [e2, show (u : Int) + 1 - 1 = (u : Int) by omega, Int.mul_add, Int.mul_one, Int.mul_comm x]
  omega
theorem floor_root (N : Nat) {t : Nat} (ht : 1 ≤ t) : ∃ r : Nat, r ^ t ≤ N ∧ N < (r + 1) ^ t := by
  have key : ∀ m : Nat, m ^ t ≤ N ∨ ∃ r : Nat, r ^ t ≤ N ∧ N < (r + 1) ^ t := by
    intro m
    induction m with
    | zero => exact .inl (by rw [Nat.zero_pow (by omega)]; exact Nat.zero_le _)
    | succ m ih =>
      rcases ih with z | z
      · by_cases c : (m + 1) ^ t ≤ N
        · exact .inl c
        · exact .inr ⟨m, z, by omega⟩
      · exact .inr z
  rcases key (N + 1) with z | z
  · have := Nat.pow_le_pow_right (show 0 < N + 1 by omega) ht
    rw [Nat.pow_one] at this
    omega
  · exact z
theorem Lays.rep {G : Hp} {us : List V} {Ls : List Lay} (h : Lays G us Ls) : ∀ t, Lays G (List.replicate t us).flatten (List.replicate t Ls).flatten
  | 0 => Lays.none G
  | t + 1 => by
    rw [rep_snoc, rep_snoc]
    exact (h.rep t).app h
theorem attOf_rep {Ls : List Lay} (h : ∀ L ∈ Ls, L.ok = true) : ∀ t, attOf (List.replicate t Ls).flatten = attOf Ls ^ t
  | 0 => by rw [Int.pow_zero]; rfl
  | t + 1 => by rw [rep_snoc, attOf_app, attOf_rep h t, Int.pow_succ]
theorem nf_empty {xs : List Lay} (h : NF xs) (e : flatL xs = []) : xs = [] := nf_unique h nf_nil e
theorem pow_empty {xs : List Lay} (h : NF xs) {t : Nat} (ht : 1 ≤ t) (e : powL xs t = []) : xs = [] := by
  obtain ⟨_, b⟩ := powL_ok h t
  rw [e] at b
  have l := repN_len (flatL xs) t
  rw [← b] at l
  have l : 0 + 1 = ((flatL xs).length + 1) ^ t := l
  refine nf_empty h ?_
  rcases Nat.eq_zero_or_pos (flatL xs).length with z | z
  · exact List.length_eq_zero_iff.mp z
  · exfalso
    have h2 : 2 ≤ (flatL xs).length + 1 := by omega
    have h3 : 2 ^ 1 ≤ ((flatL xs).length + 1) ^ t := Nat.le_trans (Nat.pow_le_pow_right (by decide) ht) (Nat.pow_le_pow_left h2 t)
    omega
theorem cut_last (xs : List V) : cutV xs (some (-1)) none = xs.drop (xs.length - 1) := by
  unfold cutV
  rw [HT.sIx_none]
  have e : HT.sIx xs.length 0 (some (-1)) = xs.length - 1 := by
    unfold HT.sIx
    simp
    omega
  rw [e]
  exact List.take_of_length_le (by rw [List.length_drop]; omega)
theorem noPy2 {i j : Int} {b : Nat} (h : 0 < j) (hb : j.natAbs < 2 ^ b) (h0 : 0 < b) (h9 : b ≤ 9000) : CDivP i j := ⟨h, PyProof.noPylong_of_log2 (wide_div (i := i) h hb h0 h9).2⟩
theorem bits_eq {N : Int} (h : 0 < N) : Builtin.Int.intBits N = N.natAbs.log2 + 1 := by
  unfold Builtin.Int.intBits
  rw [if_neg]
  intro z
  have := beq_iff_eq.mp z
  omega
/-! ## laws of joins -/
theorem ne_lays {Ls Ms : List Lay} {A B : Prop} (h : Ls = Ms) (b : B) : if (!PyData.eqv (.list (Ls.map Lay.dat)) (.list (Ms.map Lay.dat))) = true then A else B := by
  rw [eqv_lays, h, laysB_refl]
  exact iteF b
theorem nfL_app {Ls Ms : List Lay} (h : ∀ L ∈ Ls, L.ok = true) (h2 : ∀ L ∈ Ms, L.ok = true) : nfL (Ls ++ Ms) = joinL (nfL Ls) (nfL Ms) := by
  obtain ⟨a1, a2⟩ := nfL_ok h
  obtain ⟨b1, b2⟩ := nfL_ok h2
  obtain ⟨c1, c2⟩ := join_ok a1 b1
  exact nfL_is (fun L hL => (List.mem_append.mp hL).elim (h L) (h2 L)) c1 (by rw [c2, a2, b2, flat_app h h2])
theorem nfL_nil : nfL [] = [] := nfL_nf nf_nil
theorem woS_self {A : List Lay} (h : NF A) : woS A A = some [] := by
  have := woS_join h nf_nil
  rw [join_nil] at this
  exact this
theorem woS_nil (A : List Lay) : woS A [] = some A := rfl
theorem woS_out {A B : List Lay} (hA : NF A) (hB : NF B) : woS (joinL A B).reverse B.reverse = some A.reverse := by
  rw [join_rev]
  exact woS_join hB.rev hA.rev
theorem ciL_self : ∀ A : List Lay, ciL A A = A
  | [] => rfl
  | x :: A => by rw [ciL_cons_same, ciL_self A]
/-- behind the common part nothing is in common -/
theorem ciL_rest {ls ms xs ys : List Lay} (hl : NF ls) (hm : NF ms) (hx : NF xs) (hy : NF ys) (ex : joinL (ciL ls ms) xs = ls) (ey : joinL (ciL ls ms) ys = ms) : ciL xs ys = [] := by
  have hS : NF (ciL ls ms) := ciL_nf hl
  have hc : NF (ciL xs ys) := ciL_nf hx
  obtain ⟨x', nx', e1⟩ := ciL_div (ms := ys) hx
  obtain ⟨y', ny', e2⟩ := ciL_div (ms := xs) hy
  rw [ciL_comm] at e2
  obtain ⟨zs, nz, ez⟩ := ciL_max (ps := joinL (ciL ls ms) (ciL xs ys)) (join_ok hS hc).1 nx' ny'
  rw [join_assoc hS hc nx', join_assoc hS hc ny', e1, e2, ex, ey] at ez
  have f1 := (join_ok (join_ok hS hc).1 nz).2
  rw [ez, (join_ok hS hc).2] at f1
  have l1 := congrArg List.length f1
  have l2 := nestL_len (nestL (flatL (ciL ls ms)) (flatL (ciL xs ys))) (flatL zs)
  rw [nestL_len (flatL (ciL ls ms)) (flatL (ciL xs ys))] at l2
  rw [← l1] at l2
  refine nf_empty hc ?_
  generalize (flatL (ciL ls ms)).length = s at *
  generalize hcl : (flatL (ciL xs ys)).length = c at *
  generalize (flatL zs).length = z at *
  rcases Nat.eq_zero_or_pos c with y | y
  · exact List.length_eq_zero_iff.mp (hcl.trans y)
  · exfalso
    have h1 : (s + 1) * 2 ≤ (s + 1) * (c + 1) := Nat.mul_le_mul_left _ (by omega)
    have h2 : (s + 1) * (c + 1) * 1 ≤ (s + 1) * (c + 1) * (z + 1) := Nat.mul_le_mul_left _ (by omega)
    omega
theorem pow_inj {a b t : Nat} (ht : 1 ≤ t) (h : a ^ t = b ^ t) : a = b := by
  rcases Nat.lt_trichotomy a b with z | z | z
  · have := Nat.pow_lt_pow_left z (show t ≠ 0 by omega)
    omega
  · exact z
  · have := Nat.pow_lt_pow_left z (show t ≠ 0 by omega)
    omega
theorem repN_inj {ws vs : List Int} {t : Nat} (ht : 1 ≤ t) (h : repN ws t = repN vs t) : ws = vs := by
  have l1 := repN_len ws t
  have l2 := repN_len vs t
  rw [h, l2] at l1
  have e := pow_inj ht l1
  obtain ⟨u, rfl⟩ : ∃ u, t = u + 1 := ⟨t - 1, by omega⟩
  have h : nestL (repN ws u) ws = nestL (repN vs u) vs := h
  have l3 := repN_len ws u
  have l4 := repN_len vs u
  rw [← e] at l3
  exact (nestL_inj (by omega) h).2
theorem powL_inj {xs ys : List Lay} (hx : NF xs) (hy : NF ys) {t : Nat} (ht : 1 ≤ t) (h : powL xs t = powL ys t) : xs = ys := by
  have e1 := (powL_ok hx t).2
  have e2 := (powL_ok hy t).2
  rw [h, e2] at e1
  exact nf_unique hx hy (repN_inj ht e1.symm)
theorem fit_nice {Ls : List Lay} (h : ∀ L ∈ Ls, L.nice) (hl : Ls.length ≤ 80) : Fit Ls := by
  refine ⟨fun L hL => (h L hL).1, by omega, ?_, fun ns hns => ?_⟩
  · have := (attOf_lt _ Ls rfl fun L hL => ⟨(h L hL).1, nice_cnt (h L hL)⟩).2
    exact Nat.lt_of_lt_of_le this (Nat.pow_le_pow_right (by decide) (by omega))
  · have := (h _ hns).2
    have : ns.length ≤ 60 := this.1
    omega
/-! ## lists in normal forms are no longer than those they come from -/
def Short (m : Nat) (Ls : List Lay) : Prop := ∀ ns, Lay.pol ns ∈ Ls → ns.length ≤ m
theorem push_pol {acc : List Lay} {L : Lay} {ns : List Int} (h : Lay.pol ns ∈ pushL acc L) : Lay.pol ns ∈ acc ∨ Lay.pol ns = L := by
  rcases push_cases acc L with ⟨A, w, n, m, rfl, rfl, e⟩ | ⟨e, _⟩
  · rw [e] at h
    rcases List.mem_append.mp h with z | z
    · exact .inl (List.mem_append_left _ z)
    · cases (List.mem_singleton.mp z)
  · rw [e] at h
    rcases List.mem_append.mp h with z | z
    · exact .inl z
    · exact .inr (List.mem_singleton.mp z)
theorem fold_pol {ns : List Int} : ∀ (ls : List Lay) {acc : List Lay}, Lay.pol ns ∈ ls.foldl pushL acc → Lay.pol ns ∈ acc ∨ Lay.pol ns ∈ ls
  | [], acc, h => .inl h
  | L :: ls, acc, h => by
    rcases fold_pol ls h with z | z
    · rcases push_pol z with y | y
      · exact .inl y
      · exact .inr (by rw [y]; exact List.mem_cons_self)
    · exact .inr (List.mem_cons_of_mem _ z)
theorem merge_short {m : Nat} {ls : List Lay} (h : Short m ls) : Short m (mergeL ls) := fun ns hn => by
  rcases fold_pol ls hn with z | z
  · cases z
  · exact h ns z
theorem parts_short {ws : List Int} {ls : List Lay} (h : Parts ws ls) : Short ws.length ls := by
  induction h with
  | nil => exact fun ns z => nomatch z
  | con h0 hm hc t ih =>
    intro ns hn
    rcases List.mem_cons.mp hn with e | e
    · cases e
    · exact Nat.le_trans (ih ns e) (pks_len _ _ _ (by have := (sm_per hm h0).1; omega))
  | pol h0 hm hc t ih =>
    intro ns hn
    rcases List.mem_cons.mp hn with e | e
    · cases e
      unfold blk
      rw [List.length_take, List.length_drop]
      omega
    · exact Nat.le_trans (ih ns e) (pks_len _ _ _ (by have := (sm_per hm h0).1; omega))
theorem parts_all {m : Nat} : ∀ {Ls : List Lay}, (∀ L ∈ Ls, L.ok = true) → Short m Ls → ∃ Ps, (∀ L ∈ Ps, L.nf) ∧ flatL Ps = flatL Ls ∧ Short m Ps
  | [], _, _ => ⟨[], (fun _ z => nomatch z), rfl, fun _ z => nomatch z⟩
  | L :: Ls, h, hs => by
    obtain ⟨Ps, p1, p2, p3⟩ := parts_all (fun M hM => h M (List.mem_cons_of_mem _ hM)) (fun ns hn => hs ns (List.mem_cons_of_mem _ hn))
    have one : ∃ Qs, (∀ M ∈ Qs, M.nf) ∧ flatL Qs = L.waits ∧ Short m Qs := by
      have hL := h L List.mem_cons_self
      cases L with
      | pol ns =>
        obtain ⟨ls, hls⟩ := parts_exist _ ns (Nat.le_refl _)
        rw [Lay.ok_pol, List.all_eq_true] at hL
        obtain ⟨a, b⟩ := parts_ok hls fun x hx => of_decide_eq_true (hL x hx)
        exact ⟨ls, a, b, fun us hu => Nat.le_trans (parts_short hls us hu) (hs ns List.mem_cons_self)⟩
      | con w n =>
        rw [Lay.ok_con, Bool.and_eq_true] at hL
        have w0 := of_decide_eq_true hL.1
        have n1 := of_decide_eq_true hL.2
        by_cases c : n = 1
        · subst c
          exact ⟨[], (fun _ z => nomatch z), rfl, fun _ z => nomatch z⟩
        · refine ⟨[.con w n], fun M hM => ?_, flatL_con w0 n1, fun us hu => ?_⟩
          · rw [List.mem_singleton.mp hM]
            exact ⟨w0, by omega⟩
          · cases (List.mem_singleton.mp hu)
    obtain ⟨Qs, q1, q2, q3⟩ := one
    refine ⟨Qs ++ Ps, fun M hM => (List.mem_append.mp hM).elim (q1 M) (p1 M), ?_, fun ns hn => (List.mem_append.mp hn).elim (q3 ns) (p3 ns)⟩
    rw [flat_app (fun M hM => (q1 M hM).ok) (fun M hM => (p1 M hM).ok), q2, p2, flatL_cons h]
theorem nfL_short {m : Nat} {Ls : List Lay} (h : ∀ L ∈ Ls, L.ok = true) (hs : Short m Ls) : Short m (nfL Ls) := by
  obtain ⟨Ps, p1, p2, p3⟩ := parts_all h hs
  obtain ⟨a, b⟩ := merge_ok p1
  rw [nfL_is h a (b.trans p2)]
  exact merge_short p3
theorem ciL_pol {ns : List Int} : ∀ {ls ms : List Lay}, Lay.pol ns ∈ ciL ls ms → Lay.pol ns ∈ ls
  | [], ms, h => by
    have : ciL [] ms = [] := by cases ms <;> rfl
    rw [this] at h
    exact h
  | x :: ls, [], h => by cases h
  | x :: ls, y :: ms, h => by
    unfold ciL at h
    by_cases c : layB x y = true
    · rw [if_pos c] at h
      rcases List.mem_cons.mp h with z | z
      · rw [z]
        exact List.mem_cons_self
      · exact List.mem_cons_of_mem _ (ciL_pol z)
    · rw [if_neg c] at h
      rcases ciO_cases c with z | ⟨w, n, m, rfl, rfl, _, z⟩
      · rw [z] at h
        cases h
      · rw [z] at h
        cases (List.mem_singleton.mp h)
theorem join_pol {ps xs : List Lay} {ns : List Int} : Lay.pol ns ∈ joinL ps xs ↔ (Lay.pol ns ∈ ps ∨ Lay.pol ns ∈ xs) := by
  rcases join_or ps xs with ⟨A, w, n, m, B, rfl, rfl, e⟩ | ⟨_, e⟩
  · rw [e]
    simp only [List.mem_append, List.mem_cons, List.not_mem_nil, or_false, reduceCtorEq, false_or]
  · rw [e, List.mem_append]
theorem fit_nf {Ls : List Lay} (n : NF Ls) (h : (attOf Ls).natAbs < 2 ^ 9000) (s : Short 20000 Ls) : Fit Ls := by
  refine ⟨n.oks, ?_, h, s⟩
  have h1 := nf_pow2 n.1
  have h2 := flatL_len _ Ls rfl n.oks
  have h4 : 2 ^ Ls.length < 2 ^ 9000 := by
    generalize 2 ^ 9000 = B at *
    generalize 2 ^ Ls.length = C at *
    omega
  have := (Nat.pow_lt_pow_iff_right (by decide)).mp h4
  omega
theorem att_join {ps xs : List Lay} (hp : NF ps) (hx : NF xs) : attOf (joinL ps xs) = attOf ps * attOf xs := by
  obtain ⟨a, b⟩ := join_ok hp hx
  have e1 := flatL_len _ _ rfl a.oks
  have e2 := flatL_len _ _ rfl hp.oks
  have e3 := flatL_len _ _ rfl hx.oks
  have e4 := nestL_len (flatL ps) (flatL xs)
  rw [b] at e1
  rw [← e1, ← e2, ← e3]
  exact_mod_cast e4
theorem att_part {ps xs : List Lay} (hp : NF ps) (hx : NF xs) : attOf ps ≤ attOf (joinL ps xs) ∧ attOf xs ≤ attOf (joinL ps xs) := by
  rw [att_join hp hx]
  have p1 := attOf_pos hp.oks
  have p2 := attOf_pos hx.oks
  have h1 := Int.mul_le_mul_of_nonneg_left p2 (show 0 ≤ attOf ps by omega)
  have h2 := Int.mul_le_mul_of_nonneg_right p1 (show 0 ≤ attOf xs by omega)
  omega
theorem nice_70 {L : Lay} (h : L.nice) : L.cnt < 2 ^ 70 := by
  obtain ⟨h0, h1⟩ := h
  cases L with
  | pol ns =>
    have : ns.length ≤ 60 := h1.1
    show (ns.length : Int) + 1 < 2 ^ 70
    omega
  | con w n =>
    have : n < 1000000000000000000000 := h1.2
    show n < 2 ^ 70
    omega
theorem att_two {Ls : List Lay} (h : ∀ L ∈ Ls, L.nice) (hl : Ls.length ≤ 2) : 1 ≤ attOf Ls ∧ attOf Ls < 2 ^ 140 := by
  refine ⟨attOf_pos fun L hL => (h L hL).1, ?_⟩
  match Ls, h, hl with
  | [], _, _ => decide
  | [L], h, _ =>
    have := nice_70 (h L List.mem_cons_self)
    show 1 * L.cnt < 2 ^ 140
    omega
  | [L, M], h, _ =>
    have a := nice_70 (h L List.mem_cons_self)
    have b := nice_70 (h M (List.mem_cons_of_mem _ List.mem_cons_self))
    have c := LayAt.con_pos (h L List.mem_cons_self).1
    have d := LayAt.con_pos (h M (List.mem_cons_of_mem _ List.mem_cons_self)).1
    show 1 * L.cnt * M.cnt < 2 ^ 140
    rw [Int.one_mul]
    have e : L.cnt * M.cnt ≤ L.cnt * 2 ^ 70 := Int.mul_le_mul_of_nonneg_left (by omega) (by omega)
    have f : L.cnt * 2 ^ 70 < 2 ^ 70 * 2 ^ 70 := Int.mul_lt_mul_of_pos_right a (by decide)
    have g : (2 : Int) ^ 70 * 2 ^ 70 = 2 ^ 140 := by decide
    omega
theorem att_pow {xs : List Lay} (h : NF xs) (t : Nat) : attOf (powL xs t) = attOf xs ^ t := by
  obtain ⟨a, b⟩ := powL_ok h t
  have e1 := flatL_len _ _ rfl a.oks
  have e2 := flatL_len _ _ rfl h.oks
  have e3 := repN_len (flatL xs) t
  rw [b] at e1
  rw [← e1, ← e2]
  exact_mod_cast e3
theorem pow_short' {m : Nat} {xs : List Lay} (h : Short m xs) (t : Nat) : Short m (powL xs t) := merge_short fun ns hn => by
  obtain ⟨l, h1, h2⟩ := List.mem_flatten.mp hn
  rw [(List.mem_replicate.mp h1).2] at h2
  exact h ns h2
end Rn

set_option Elab.async false
set_option linter.all false
set_option maxRecDepth 100000
set_option maxHeartbeats 4000000
namespace Rn
open PySem PySem.Spec PyProof.Rows L2
/-! ## normal forms of short nestings as data -/
theorem in_nestH {α : Type} {xs ys : List α} {z : α} : z ∈ nestL xs ys ↔ (z ∈ xs ∨ z ∈ ys) := by
  refine ⟨nestL_mem, fun h => ?_⟩
  unfold nestL
  rcases h with h | h
  · exact List.mem_append_left _ h
  · exact List.mem_append_right _ (List.mem_flatMap.mpr ⟨z, h, List.mem_cons_self⟩)
theorem flat_has : ∀ {ls : List Lay}, (∀ L ∈ ls, L.ok = true) → ∀ L ∈ ls, ∀ x ∈ L.waits, x ∈ flatL ls
  | M :: ls, h, L, hL, x, hx => by
    rw [flatL_cons h, in_nestH]
    rcases List.mem_cons.mp hL with rfl | z
    · exact .inl hx
    · exact .inr (flat_has (fun N hN => h N (List.mem_cons_of_mem _ hN)) L z x hx)
theorem flat_niceH : ∀ Ls : List Lay, (∀ L ∈ Ls, L.nice) → ∀ x ∈ flatL Ls, 0 ≤ x ∧ x < 1000000000000
  | [], _, x, hx => by cases hx
  | L :: Ls, h, x, hx => by
    rw [flatL_cons fun M hM => (h M hM).1, in_nestH] at hx
    rcases hx with z | z
    · have n := h L List.mem_cons_self
      cases L with
      | pol ns => exact n.2.2 x z
      | con w k =>
        have e := (List.mem_replicate.mp z).2
        subst e
        have ok := n.1
        unfold Lay.ok at ok
        have ok : (decide (0 ≤ x) && decide (1 ≤ k)) = true := ok
        rw [Bool.and_eq_true, decide_eq_true_eq] at ok
        exact ⟨ok.1, n.2.1⟩
    · exact flat_niceH Ls (fun M hM => h M (List.mem_cons_of_mem _ hM)) x z
theorem nice_nf {c : List Lay} (h : NF c) (hb : ∀ x ∈ flatL c, 0 ≤ x ∧ x < 1000000000000) (ha : attOf c ≤ 61) : (∀ L ∈ c, L.nice) ∧ c.length ≤ 60 := by
  refine ⟨fun L hL => ?_, ?_⟩
  · have ok := h.oks L hL
    have nf := h.1 L hL
    have le := cnt_le h.oks hL
    have hw := flat_has h.oks L hL
    cases L with
    | pol ns =>
      have le : (ns.length : Int) + 1 ≤ _ := le
      exact ⟨ok, by omega, fun x hx => hb x (hw x hx)⟩
    | con w n =>
      have le : n ≤ _ := le
      have n2 : 2 ≤ n := nf.2
      have hm : w ∈ (Lay.con w n).waits := List.mem_replicate.mpr ⟨by omega, rfl⟩
      exact ⟨ok, (hb w (hw w hm)).2, by omega⟩
  · have p := nf_pow2 h.1
    have l := flatL_len _ c rfl h.oks
    have : c.length < 2 ^ c.length := Nat.lt_two_pow_self
    omega
theorem div_nice {A xs c : List Lay} (nc : NF c) (nx : NF xs) (e : joinL c xs = A) (hb : ∀ x ∈ flatL A, 0 ≤ x ∧ x < 1000000000000) (oA : ∀ L ∈ A, L.ok = true) (ha : attOf A ≤ 61) : (∀ L ∈ c, L.nice) ∧ c.length ≤ 60 ∧ attOf c ≤ 61 := by
  have f := (join_ok nc nx).2
  rw [e] at f
  have l1 := flatL_len _ A rfl oA
  have l2 := flatL_len _ c rfl nc.oks
  have l3 := nestL_len (flatL c) (flatL xs)
  rw [← f] at l3
  have l4 : (flatL c).length + 1 ≤ ((flatL c).length + 1) * ((flatL xs).length + 1) := Nat.le_mul_of_pos_right _ (Nat.succ_pos _)
  have le : attOf c ≤ 61 := by omega
  have hc : ∀ x ∈ flatL c, 0 ≤ x ∧ x < 1000000000000 := fun x hx => hb x (by rw [f, in_nestH]; exact .inl hx)
  exact ⟨(nice_nf nc hc le).1, (nice_nf nc hc le).2, le⟩
theorem take_nest {xs ys : List Int} : (nestL xs ys).take xs.length = xs := by
  cases ys with
  | nil => rw [nestL_nil, List.take_length]
  | cons y ys => rw [nestL_cons, List.take_left]
theorem can_lays (Ls : List Lay) : (PyData.list (Ls.map Lay.dat)).canLay0 = true ∧ (PyData.list (Ls.map Lay.dat)).depth ≤ 3 := by
  have key : ∀ Ls : List Lay, PyData.canLayAll0 (Ls.map Lay.dat) = true ∧ PyData.depthAll (Ls.map Lay.dat) ≤ 2 := by
    intro Ls
    induction Ls with
    | nil => exact ⟨by simp [PyData.canLayAll0], by simp [PyData.depthAll]⟩
    | cons L Ls ih =>
      have h : L.dat.canLay0 = true ∧ L.dat.depth ≤ 2 := by
        cases L with
        | pol ns =>
          have := depth_ints ns
          exact ⟨by simp [Lay.dat, dInts, PyData.canLay0, canLay_ints ns], by simp only [Lay.dat, dInts, PyData.depth]; omega⟩
        | con w n => exact ⟨by simp [Lay.dat, PyData.canLay0, PyData.canLayAll0], by simp [Lay.dat, PyData.depth, PyData.depthAll]⟩
      refine ⟨by simp [PyData.canLayAll0, h.1, ih.1], ?_⟩
      simp only [List.map_cons, PyData.depthAll]
      omega
  obtain ⟨h1, h2⟩ := key Ls
  exact ⟨by simpa [PyData.canLay0] using h1, by simp only [PyData.depth]; omega⟩
def twoD (As Bs : List Lay) : PyData := .list [.list (As.map Lay.dat), .list (Bs.map Lay.dat)]
theorem can_two (As Bs : List Lay) : (twoD As Bs).canLay0 = true := by
  unfold twoD
  rw [PyData.canLay0, PyData.canLayAll0, PyData.canLayAll0, PyData.canLayAll0, (can_lays As).1, (can_lays Bs).1]
  rfl
theorem shaped_two (As Bs : List Lay) : SeqAt.shaped (twoD As Bs) = true := by
  have d1 := (can_lays As).2
  have d2 := (can_lays Bs).2
  unfold SeqAt.shaped
  rw [Bool.and_eq_true]
  refine ⟨can_two As Bs, decide_eq_true ?_⟩
  unfold twoD
  rw [PyData.depth, PyData.depthAll, PyData.depthAll, PyData.depthAll]
  omega
theorem dp_two {K : PySem.W.Frag} {G : Hp} {o p q : Addr} {As Bs : List Lay} (h : G o = some (.lst [.ref p, .ref q])) (hp : NestAt G p As) (hq : NestAt G q Bs) : Dp K G (.ref o) (twoD As Bs) :=
  .lst (sql h) (.cons (dp_nest hp) (.cons (dp_nest hq) .nil))
end Rn

set_option Elab.async false
set_option linter.all false
set_option maxRecDepth 100000
set_option maxHeartbeats 4000000
namespace Rn
open PySem PySem.Spec PyProof.Rows L2
/-! # runners -/
theorem na_ : ¬ (("_nesting" : Str) = "_attempt") := by decide +kernel
theorem an_ : ¬ (("_attempt" : Str) = "_nesting") := by decide +kernel
/-- the two fields of a runner -/
def runF (l : Addr) (n : Int) : List (Str × V) := putF "_attempt" (.int n) (putF "_nesting" (.ref l) [])
theorem runF_eq (l : Addr) (n : Int) : runF l n = ([("_nesting", V.ref l), ("_attempt", V.int n)] : List (Str × V)) := by
  show (if ("_nesting" : Str) = "_attempt" then [(("_nesting" : Str), V.int n)] else (("_nesting" : Str), V.ref l) :: putF "_attempt" (V.int n) []) = ([("_nesting", V.ref l), ("_attempt", V.int n)] : List (Str × V))
  rw [if_neg na_]
  all_goals rfl
theorem runF_n (l : Addr) (n : Int) : (runF l n).lookup ("_nesting" : Str) = some (.ref l) := by
  unfold runF
  rw [lookup_putF, if_neg na_, lookup_putF, if_pos rfl]
theorem runF_a (l : Addr) (n : Int) : (runF l n).lookup ("_attempt" : Str) = some (.int n) := by
  unfold runF
  rw [lookup_putF, if_pos rfl]
theorem runF_no (l : Addr) (n : Int) {m : Str} (h1 : ¬ m = "_attempt") (h2 : ¬ m = "_nesting") : (runF l n).lookup m = none := by
  unfold runF
  rw [lookup_putF, if_neg h1, lookup_putF, if_neg h2]
  all_goals rfl
theorem runF_puta (l : Addr) (n m : Int) : putF "_attempt" (.int m) (runF l n) = runF l m := by
  rw [runF_eq, runF_eq]
  show (if ("_nesting" : Str) = "_attempt" then _ else (("_nesting" : Str), V.ref l) :: (if ("_attempt" : Str) = "_attempt" then [(("_attempt" : Str), V.int m)] else _)) = ([("_nesting", V.ref l), ("_attempt", V.int m)] : List (Str × V))
  rw [if_neg na_, if_pos rfl]
theorem runF_putn (l r : Addr) (n : Int) : putF "_nesting" (.ref r) (runF l n) = runF r n := by
  rw [runF_eq, runF_eq]
  show (if ("_nesting" : Str) = "_nesting" then (("_nesting" : Str), V.ref r) :: [(("_attempt" : Str), V.int n)] else _) = ([("_nesting", V.ref r), ("_attempt", V.int n)] : List (Str × V))
  rw [if_pos rfl]
/-- a runner at p: present attempt n of the policy of the layers Ls, held as their normal form -/
def RunA (C : Addr) (H : Hp) (p : Addr) (n : Nat) (Ls : List Lay) : Prop := ∃ (dx l : Addr), H p = some (.ins C dx (runF l (n : Int))) ∧ NestAt H l (nfL Ls)
theorem RunA.same {C : Addr} {H H' : Hp} {p : Addr} {n : Nat} {Ls : List Lay} (h : RunA C H p n Ls) (s : Same H H') : RunA C H' p n Ls := by
  obtain ⟨dx, l, h1, h2⟩ := h
  exact ⟨dx, l, s _ _ h1, h2.same s⟩
theorem nest_put {H : Hp} {p l C dx : Addr} {fs : List (Str × V)} {o : HO} {Ms : List Lay} (hp : H p = some (.ins C dx fs)) (h : NestAt H l Ms) : NestAt (upd H p o) l Ms := by
  obtain ⟨us, h1, h2, h3⟩ := h
  have ne : ∀ b xs, (H b = some (.lst xs) ∨ H b = some (.tup xs)) → b ≠ p := fun b xs e z => by
    rw [z, hp] at e
    rcases e with e | e <;> cases e
  refine ⟨us, by rw [upd_ne (ne l us (.inl h1))]; exact h1, h2, fun i v L a b => ?_⟩
  refine (h3 i v L a b).keep fun x e => ?_
  have := h3 i v L a b
  subst e
  cases L with
  | pol ns => obtain ⟨y, e, z⟩ := this; cases e; exact ne _ _ (.inl z)
  | con w n => obtain ⟨y, e, z⟩ := this; cases e; exact ne _ _ (.inr z)
/-- only the object at p may have changed -/
def Chg (p : Addr) (H H' : Hp) : Prop := Same (hid p p H) (hid p p H')
theorem Chg.of {p : Addr} {H H' : Hp} (s : Same H H') : Chg p H H' := hid_same s
theorem Chg.put {p : Addr} {H H' : Hp} {o : HO} (s : Same H H') : Chg p H (upd H' p o) := fun b x h => by
  rw [hid_src1]
  exact hid_same s b x h
theorem Chg.trans {p : Addr} {H H' H2 : Hp} (a : Chg p H H') (b : Chg p H' H2) : Chg p H H2 := Same.trans a b
theorem Chg.get {p b : Addr} {H H' : Hp} {o : HO} (c : Chg p H H') (h : H b = some o) (ne : b ≠ p) : H' b = some o := (hid_get (c b o (hid_at h ne ne))).1
/-! ## wide layers -/
def Lay.wide (L : Lay) : Prop := L.ok = true ∧ L.cnt.natAbs < 2 ^ 1000 ∧ match L with
  | .pol ns => ns.length ≤ 20000 ∧ ∀ x ∈ ns, 0 ≤ x ∧ x < 1000000000000
  | .con w _ => 0 ≤ w ∧ w < 1000000000000
theorem pw_le {n a b : Nat} (h : n < 2 ^ a) (l : a ≤ b) : n < 2 ^ b := Nat.lt_of_lt_of_le h (Nat.pow_le_pow_right (by decide) l)
theorem Lay.nice.wide {L : Lay} (h : L.nice) : L.wide := by
  obtain ⟨h0, h1, h2⟩ := h.fair
  have := LayAt.con_pos h0
  exact ⟨h0, pw_le (show L.cnt.natAbs < 2 ^ 100 by omega) (by decide), h2⟩
theorem Lay.pt_wide {L : Lay} {j : Nat} (h : L.wide) (hj : j < L.n) : 0 ≤ L.pt j ∧ (L.pt j).natAbs < 2 ^ 1050 := by
  obtain ⟨h0, h1, h2⟩ := h
  cases L with
  | pol ns =>
    obtain ⟨h3, h4⟩ := h2
    obtain ⟨b1, b2⟩ := sum_bound (ns := ns.take j) fun x hx => h4 x (List.mem_of_mem_take hx)
    have b3 : ((ns.take j).length : Int) ≤ 20000 := by
      have := List.length_take_le' j ns
      omega
    have b4 : ((ns.take j).length : Int) * 1000000000000 ≤ 20000 * 1000000000000 := Int.mul_le_mul_of_nonneg_right b3 (by decide)
    refine ⟨b1, pw_le (a := 150) ?_ (by decide)⟩
    show ((ns.take j).sum).natAbs < 2 ^ 150
    omega
  | con w n =>
    obtain ⟨w0, w1⟩ := h2
    have hc : (Lay.con w n).cnt = n := rfl
    have hn := Lay.n_cnt h0
    rw [hc] at h1 hn
    refine ⟨Int.mul_nonneg w0 (by omega), ?_⟩
    show (w * (j : Int)).natAbs < 2 ^ 1050
    have jb : ((j : Int)).natAbs < 2 ^ 1000 := Nat.lt_of_le_of_lt (show ((j : Int)).natAbs ≤ n.natAbs by omega) h1
    exact pw_le (wide_lt (i := w) (j := (j : Int)) (a := 40) (b := 1000) (by omega) jb) (by decide)
/-- what a normal form of such layers is: no more attempts, no other waits -/
theorem flat_waits : ∀ Ls : List Lay, (∀ L ∈ Ls, L.ok = true) → ∀ x ∈ flatL Ls, ∃ L ∈ Ls, x ∈ L.waits
  | [], _, x, hx => by cases hx
  | L :: Ls, h, x, hx => by
    rw [flatL_cons h] at hx
    rcases nestL_mem hx with z | z
    · exact ⟨L, List.mem_cons_self, z⟩
    · obtain ⟨M, hM, hz⟩ := flat_waits Ls (fun M hM => h M (List.mem_cons_of_mem _ hM)) x z
      exact ⟨M, List.mem_cons_of_mem _ hM, hz⟩
theorem waits_flat : ∀ Ls : List Lay, (∀ L ∈ Ls, L.ok = true) → ∀ L ∈ Ls, ∀ x ∈ L.waits, x ∈ flatL Ls
  | [], _, L, hL, _, _ => by cases hL
  | M :: Ls, h, L, hL, x, hx => by
    rw [flatL_cons h]
    unfold nestL
    rcases List.mem_cons.mp hL with z | z
    · rw [← z]
      exact List.mem_append_left _ hx
    · exact List.mem_append_right _ (List.mem_flatMap.mpr ⟨x, waits_flat Ls (fun M hM => h M (List.mem_cons_of_mem _ hM)) L z x hx, List.mem_cons_self⟩)
/-- what a law draws for a runner -/
structure Drawn (Ls : List Lay) : Prop where
  nice : ∀ L ∈ Ls, L.nice
  few : Ls.length ≤ 8
theorem Drawn.ok {Ls : List Lay} (d : Drawn Ls) : ∀ L ∈ Ls, L.ok = true := fun L hL => (d.nice L hL).1
theorem Drawn.fit {Ls : List Lay} (d : Drawn Ls) : Fit Ls := fit_nice d.nice (by have := d.few; omega)
theorem Drawn.att {Ls : List Lay} (d : Drawn Ls) : (attOf Ls).natAbs < 2 ^ 1000 := pw_le (attOf_lt _ Ls rfl fun L hL => ⟨(d.nice L hL).1, nice_cnt (d.nice L hL)⟩).2 (by have := d.few; omega)
theorem Drawn.nfok {Ls : List Lay} (d : Drawn Ls) : ∀ M ∈ nfL Ls, M.ok = true := (nfL_ok d.ok).1.oks
theorem Drawn.nfatt {Ls : List Lay} (d : Drawn Ls) : attOf (nfL Ls) = attOf Ls := d.fit.nf.1
theorem Drawn.nfn {Ls : List Lay} (d : Drawn Ls) : attN (nfL Ls) = attN Ls := by
  rw [← flat_attN d.nfok, ← flat_attN d.ok, (nfL_ok d.ok).2]
theorem Drawn.nfwide {Ls : List Lay} (d : Drawn Ls) : ∀ M ∈ nfL Ls, M.wide := fun M hM => by
  have ok := d.nfok M hM
  have c1 := LayAt.con_pos ok
  have c2 := cnt_le d.nfok hM
  rw [d.nfatt] at c2
  have c3 := d.att
  have nf := (nfL_ok d.ok).1.1 M hM
  have wts : ∀ x ∈ M.waits, 0 ≤ x ∧ x < 1000000000000 := fun x hx => by
    have h1 := waits_flat _ d.nfok M hM x hx
    rw [(nfL_ok d.ok).2] at h1
    exact flat_nice Ls d.nice x h1
  refine ⟨ok, Nat.lt_of_le_of_lt (by omega) c3, ?_⟩
  cases M with
  | pol ns => exact ⟨nfL_short d.ok d.fit.short ns hM, wts⟩
  | con w n =>
    have n2 : 2 ≤ n := nf.2
    exact wts w (List.mem_replicate.mpr ⟨by omega, rfl⟩)
theorem Drawn.time {Ls : List Lay} (d : Drawn Ls) {i : Nat} (h : i < attN Ls) : timeN (nfL Ls) i = timeN Ls i := by
  rw [time_take d.nfok i (by rw [d.nfn]; exact h), time_take d.ok i h, (nfL_ok d.ok).2]
theorem Drawn.wait {Ls : List Lay} (d : Drawn Ls) {i : Nat} (h1 : 1 ≤ i) (h : i < attN Ls) : waitN (nfL Ls) i = waitN Ls i := by
  have l := flat_attN d.ok
  have l2 := flat_attN d.nfok
  have e1 := flat_wait _ d.ok (i - 1) (by omega)
  have e2 := flat_wait _ d.nfok (i - 1) (by rw [(nfL_ok d.ok).2]; omega)
  rw [(nfL_ok d.ok).2, e1, show i - 1 + 1 = i by omega] at e2
  exact (Option.some.inj e2).symm
theorem Chg.new {p : Addr} {H0 H H' : Hp} (s : Same H0 H) (c : Chg p H H') (n : H0 p = none) : Same H0 H' := fun _ _ h => c.get (s _ _ h) (ne_of_none h n)
theorem Drawn.pos {Ls : List Lay} (d : Drawn Ls) : 1 ≤ attN Ls := by
  have := flat_attN d.ok
  omega
theorem Drawn.attE {Ls : List Lay} (d : Drawn Ls) : attOf Ls = (attN Ls : Int) := (attN_of d.ok).symm
theorem nestV_put {H0 H : Hp} {p l C dx : Addr} {fs : List (Str × V)} {o : HO} {us : List V} {Ms : List Lay} (hp : H p = some (.ins C dx fs)) (h : NestV H0 H l us Ms) : NestV H0 (upd H p o) l us Ms := by
  obtain ⟨us', h1, h2⟩ := nest_put (o := o) hp h.nest
  have nl : l ≠ p := fun z => by
    have := h.1
    rw [z, hp] at this
    cases this
  have e : us' = us := by
    rw [upd_ne nl, h.1] at h1
    injection (Option.some.inj h1) with h1
    exact h1.symm
  subst e
  exact ⟨h1, h2.1, h2.2, h.2.2.2⟩
/-- a runner at p whose lists were all made since H0 -/
def RunO (C : Addr) (H0 H : Hp) (p : Addr) (n : Nat) (Ls : List Lay) : Prop := (∀ x, H x = none → H0 x = none) ∧ ∃ (dx l : Addr) (us : List V), H p = some (.ins C dx (runF l (n : Int))) ∧ H0 l = none ∧ NestV H0 H l us (nfL Ls)
theorem RunO.run {C : Addr} {H0 H : Hp} {p : Addr} {n : Nat} {Ls : List Lay} (h : RunO C H0 H p n Ls) : RunA C H p n Ls := by
  obtain ⟨_, dx, l, us, h1, _, h3⟩ := h
  exact ⟨dx, l, h1, h3.nest⟩
theorem RunO.same {C : Addr} {H0 H H' : Hp} {p : Addr} {n : Nat} {Ls : List Lay} (h : RunO C H0 H p n Ls) (s : Same H H') : RunO C H0 H' p n Ls := by
  obtain ⟨g, dx, l, us, h1, h2, h3⟩ := h
  exact ⟨fun x hx => g x (s.free hx), dx, l, us, s _ _ h1, h2, h3.same s⟩
theorem RunO.draw {C a : Addr} {H0 H H' : Hp} {p : Addr} {n : Nat} {Ls : List Lay} {c m : Int} (h : RunO C H0 H p n Ls) (A : Rdv a c H H') (S : Rng H a m) (S0 : ∃ o, H0 a = some o) : RunO C H0 H' p n Ls := by
  obtain ⟨g, dx, l, us, h1, h2, h3⟩ := h
  obtain ⟨o0, h0⟩ := S0
  have pa : p ≠ a := fun z => by
    obtain ⟨_, _, _, q, _⟩ := S
    rw [← z, h1] at q
    cases q
  have keep : ∀ x o, x ≠ a → H x = some o → H' x = some o := fun x o ne e => (hid_get (A.same x o (hid_at e ne ne))).1
  have la : l ≠ a := fun z => by rw [z, h0] at h2; cases h2
  have xa : ∀ x, V.ref x ∈ us → x ≠ a := fun x hx z => by
    have := (h3.2.2.2 x hx).2
    rw [z, h0] at this
    cases this
  refine ⟨fun x hx => g x (A.free S hx), dx, l, us, keep _ _ pa h1, h2, keep _ _ la h3.1, h3.2.1, fun i v L x y => ?_, h3.2.2.2⟩
  have hv := List.mem_of_getElem? x
  have := h3.2.2.1 i v L x y
  cases L with
  | pol ns => obtain ⟨z, e, q⟩ := this; subst e; exact ⟨z, rfl, keep _ _ (xa z hv) q⟩
  | con w n => obtain ⟨z, e, q⟩ := this; subst e; exact ⟨z, rfl, keep _ _ (xa z hv) q⟩
theorem Rdv.chg {a p : Addr} {c n : Int} {H H1 H2 : Hp} (x : Rdv a c H H1) (s : Rng H a n) (g : Chg p H1 H2) (f : H p = none) : Rdv a c H H2 := by
  have pa : a ≠ p := fun z => by
    obtain ⟨_, _, _, q, _⟩ := s
    rw [z, f] at q
    cases q
  refine ⟨fun b o h => ?_, fun m t => ?_⟩
  · obtain ⟨h1, h2, h3⟩ := hid_get h
    have h4 := (hid_get (x.same b o h)).1
    exact hid_at (g.get h4 (ne_of_none h1 f)) h2 h3
  · obtain ⟨dg, seed, cnt, q, r⟩ := x.src m t
    exact ⟨dg, seed, cnt, g.get q pa, r⟩
/-- the wait behind an attempt -/
def nextV (Ls : List Lay) (n : Nat) : V := if n + 1 = attN Ls then .non else .int (waitN Ls (n + 1))
/-- what a runner shows -/
def shownV (Ls : List Lay) (n : Nat) : List V := [.int (n : Int), .int (timeN Ls n), .int (attOf Ls - 1 - (n : Int)), nextV Ls n]
def nextD (Ls : List Lay) (n : Nat) : PyData := if n + 1 = attN Ls then .none else .int (waitN Ls (n + 1))
def shownD (Ls : List Lay) (n : Nat) : PyData := .list [.int (n : Int), .int (timeN Ls n), .int (attOf Ls - 1 - (n : Int)), nextD Ls n]
theorem dp_shown {K : PySem.W.Frag} {H : Hp} {r : Addr} {Ls : List Lay} {n : Nat} (h : H r = some (.lst (shownV Ls n))) : Dp K H (.ref r) (shownD Ls n) := by
  refine .lst (sql h) (.cons (.int _) (.cons (.int _) (.cons (.int _) (.cons ?_ .nil))))
  unfold nextV nextD
  split
  · exact .non
  · exact .int _
theorem Shw.none : Shw .none 80 1 := ⟨by decide, by decide, by decide, by decide, by decide⟩
theorem shown_shw {Ls : List Lay} {n : Nat} (nice : ∀ L ∈ Ls, L.nice) (hn : n < attN Ls) (ha : attN Ls ≤ 100000) : Shw (shownD Ls n) 2000 3 := by
  have fair : ∀ L ∈ Ls, L.fair := fun L hL => (nice L hL).fair
  obtain ⟨t1, t2⟩ := time_le fair n hn
  have ae := attN_of (Ls := Ls) fun L hL => (nice L hL).1
  have t3 : (n : Int) * 1000000000000 ≤ 100000 * 1000000000000 := Int.mul_le_mul_of_nonneg_right (by omega) (by decide)
  refine (Shw.list (ds := [.int (n : Int), .int (timeN Ls n), .int (attOf Ls - 1 - (n : Int)), nextD Ls n]) (W := 80) (D := 1) fun d hd => ?_).mono (by show 4 * 81 ≤ 2000; decide) (by decide)
  simp only [List.mem_cons, List.not_mem_nil, or_false] at hd
  rcases hd with rfl | rfl | rfl | rfl
  · exact Shw.int (by omega)
  · exact Shw.int (by omega)
  · exact Shw.int (by omega)
  · unfold nextD
    split
    · exact Shw.none
    · obtain ⟨w1, w2⟩ := wait_bound (i := n + 1) fair (by omega) (by omega)
      exact Shw.int (by omega)
theorem nest_chg {a x b C dx : Addr} {fs : List (Str × V)} {H1 H2 : Hp} {Ls : List Lay} (hp : H1 x = some (.ins C dx fs)) (c : Chg x H1 H2) (N : NestAt (hid a a H1) b Ls) : NestAt (hid a a H2) b Ls := by
  have keep : ∀ y o, (∀ C dx fs, o ≠ .ins C dx fs) → hid a a H1 y = some o → hid a a H2 y = some o := fun y o no h => by
    obtain ⟨h1, h2, h3⟩ := hid_get h
    exact hid_at (c.get h1 fun z => by rw [z, hp] at h1; cases h1; exact no _ _ _ rfl) h2 h3
  obtain ⟨us, e, l, at_⟩ := N
  refine ⟨us, keep _ _ (fun _ _ _ z => nomatch z) e, l, fun i v L p q => ?_⟩
  have := at_ i v L p q
  cases L with
  | pol ns => obtain ⟨y, e, z⟩ := this; exact ⟨y, e, keep _ _ (fun _ _ _ z => nomatch z) z⟩
  | con w n => obtain ⟨y, e, z⟩ := this; exact ⟨y, e, keep _ _ (fun _ _ _ z => nomatch z) z⟩
theorem lst_chg {a x b C dx : Addr} {fs : List (Str × V)} {H1 H2 : Hp} {xs : List V} (hp : H1 x = some (.ins C dx fs)) (c : Chg x H1 H2) (h : hid a a H1 b = some (.lst xs)) : hid a a H2 b = some (.lst xs) := by
  obtain ⟨h1, h2, h3⟩ := hid_get h
  exact hid_at (c.get h1 fun z => by rw [z, hp] at h1; cases h1) h2 h3
theorem RunO.ins {C : Addr} {H0 H : Hp} {p : Addr} {n : Nat} {Ls : List Lay} (h : RunO C H0 H p n Ls) : ∃ dx fs, H p = some (.ins C dx fs) := by
  obtain ⟨_, dx, l, us, h1, _⟩ := h
  exact ⟨dx, _, h1⟩
/-- x in xs, of data that are not deep -/
def rInS (K : PySem.W.Frag) : R2 := fun x y H Q => ∃ d ds, Dp K H x d ∧ Dp K H y (.list ds) ∧ d.canLay0 = true ∧ (PyData.list ds).canLay0 = true ∧ d.depth ≤ 30 ∧ Q (.bl (ds.any fun z => PyData.eqv z d)) H
theorem op_inS {X : Cx} (hu : X.A.units + 64 < cLine) : OpR X (compareOp .In) (rInS X.K) := by
  intro pins s σ H x y v u Q I rx ry h
  obtain ⟨d, ds, hd, he, sd, se, dd, q⟩ := h
  obtain ⟨as, r1⟩ := Dp.reads I d x v hd rx
  obtain ⟨bs, r2⟩ := Dp.reads I (.list ds) y u he ry
  exact SeqAt.in_list_reads r2 r1 (by simpa [PyData.canLay0] using se) sd (by omega) ⟨.bl _, H, I, rfl, q⟩
theorem Lays.hidden {a : Addr} {H : Hp} {ts : List V} {Ls : List Lay} (h : Lays H ts Ls) (nb : ∀ y, V.ref y ∈ ts → y ≠ a) : Lays (hid a a H) ts Ls := ⟨h.1, fun i v L x y => by
  have := h.2 i v L x y
  have hv := List.mem_of_getElem? x
  cases L with
  | con wt k => obtain ⟨u, e, z⟩ := this; subst e; exact ⟨_, rfl, hid_at z (nb u hv) (nb u hv)⟩
  | pol ns => obtain ⟨u, e, z⟩ := this; subst e; exact ⟨_, rfl, hid_at z (nb u hv) (nb u hv)⟩⟩
theorem lay_can (L : Lay) : L.dat.canLay0 = true ∧ L.dat.depth ≤ 30 := by
  cases L with
  | pol ns =>
    have := depth_ints ns
    refine ⟨?_, ?_⟩
    · show (dInts ns).canLay0 = true
      unfold dInts
      simp only [PyData.canLay0, canLay_ints]
    · show (dInts ns).depth ≤ 30
      unfold dInts
      simp only [PyData.depth]
      omega
  | con w n =>
    refine ⟨?_, ?_⟩
    · simp only [Lay.dat, PyData.canLay0, PyData.canLayAll0, Bool.and_true]
    · simp only [Lay.dat, PyData.depth, PyData.depthAll]
      omega
theorem lays_can0 : ∀ Ls : List Lay, (PyData.list (Ls.map Lay.dat)).canLay0 = true
  | [] => by simp only [List.map_nil, PyData.canLay0, PyData.canLayAll0]
  | L :: Ls => by
    have := lays_can0 Ls
    simp only [PyData.canLay0] at this
    simp only [List.map_cons, PyData.canLay0, PyData.canLayAll0, (lay_can L).1, this, Bool.and_true]
theorem lay_chg {a x C dx : Addr} {fs : List (Str × V)} {H1 H2 : Hp} {v : V} {L : Lay} (hp : H1 x = some (.ins C dx fs)) (c : Chg x H1 H2) (h : LayAt (hid a a H1) v L) : LayAt (hid a a H2) v L := by
  have keep : ∀ y o, (∀ C dx fs, o ≠ .ins C dx fs) → hid a a H1 y = some o → hid a a H2 y = some o := fun y o no h => by
    obtain ⟨h1, h2, h3⟩ := hid_get h
    exact hid_at (c.get h1 fun z => by rw [z, hp] at h1; cases h1; exact no _ _ _ rfl) h2 h3
  cases L with
  | pol ns => obtain ⟨y, e, z⟩ := h; exact ⟨y, e, keep _ _ (fun _ _ _ z => nomatch z) z⟩
  | con w n => obtain ⟨y, e, z⟩ := h; exact ⟨y, e, keep _ _ (fun _ _ _ z => nomatch z) z⟩
theorem lay_hid {a : Addr} {H : Hp} {v : V} {L : Lay} (h : LayAt (hid a a H) v L) : LayAt H v L := by
  cases L with
  | con wt k => obtain ⟨u, e, z⟩ := h; exact ⟨u, e, (hid_get z).1⟩
  | pol ns => obtain ⟨u, e, z⟩ := h; exact ⟨u, e, (hid_get z).1⟩
end Rn

set_option Elab.async false
set_option linter.all false
set_option maxRecDepth 100000
set_option maxHeartbeats 4000000
namespace Rn
open PySem PySem.Spec PyProof.Rows L2
/-! ## calls of a def that shows lists, where nothing is being shown -/
structure FnH (P : Program) (w : World) (K : PySem.W.Frag) (mg : Str → Option Value) (base : Heap) (k : Nat) (f : Addr) (fd : FuncData) (ps : List Str) (sp : Sp) : Prop where
  len : ∀ vs H Q E, sp vs H Q E → vs.length = ps.length
  run : FnG P w K mg base k f fd ps sp
theorem FnH.mono {P : Program} {w : World} {K : PySem.W.Frag} {mg : Str → Option Value} {base : Heap} {j k : Nat} {f : Addr} {fd : FuncData} {ps : List Str} {sp : Sp} (F : FnH P w K mg base j f fd ps sp) (h : j ≤ k) : FnH P w K mg base k f fd ps sp :=
  ⟨F.len, fun A outer s H args us vs Q E gu hr => F.run A outer s H args us vs Q E gu (hr.mono h)⟩
section
variable {X : Cx} {k : Nat} {f : Addr} {fd : FuncData} {ps : List Str} {sp : Sp} {E : XK} {x : Str} {e : Expr} {es : List Expr} {t : TA} {p pos : Pos}
theorem run_fnG {pins : List (Addr × Obj)} {σ : L2.St} {H : Hp} {s : Shared} {Q : VK} {us : List Value} {vs : List V} (F : FnH X.prog X.w X.K X.mg X.base k f fd ps sp) (gu : X.A.guards = some []) (hr : Room k X.A) (hb : Binds X.K fd ps []) (hx : Passes CX0 X E)
    (I : Inv X pins σ H s) (r : Vals vs us) (h : sp (vs ++ []) H Q E) : wpAny (model X.prog X.w) X.A (call (.ref f) us) (EP X pins σ Q) X.xe s := by
  have r2 : Vals (vs ++ []) (us ++ []) := r.append .nil
  have hl : (us ++ []).length = ps.length := by rw [← r2.length]; exact F.len _ _ _ _ h
  refine wpAny_call (codeAny_mono (F.run X.A X.stack s H ⟨us, []⟩ (us ++ []) (vs ++ []) Q E gu hr I.env0 (hb s us I.kIn hl) r2 (F.len _ _ _ _ h) h) fun r s' hq => ?_)
  cases r with
  | error e => exact hx pins σ H s e s' I hq
  | ok fl =>
    cases fl with
    | ret u => exact I.after hq
    | next => exact False.elim hq
    | brk => exact False.elim hq
    | cont => exact False.elim hq
theorem pe_callG (F : FnH X.prog X.w X.K X.mg X.base k f fd ps sp) (gu : X.A.guards = some []) (hr : Room k X.A) (hg : Gl X x) (hm : X.mg x = some (.ref f)) (hk : PySem.W.keepIn X.K (.ref f) = true) (hb : Binds X.K fd ps []) (hx : Passes CX0 X E)
    (ha : PA X (e :: es) t) (hdb : (x == ("__debug__" : Str)) = false := by decide) (he : starEach (e :: es) X.env = (false, eval e X.env) :: starEach es X.env := by rfl) (hpl : (backTo pos (starEach es X.env)).any (·.1) = false := by rfl) :
    PE X (.Call (.Name x p) (e :: es) [] pos) (tCall sp [] E t) := by
  refine ⟨fun pins s σ H Q I h => ?_⟩
  refine wpAny_Call_Name_kw (ld_glob I hg hm ?_ hdb)
  refine PySem.W.callWith_K (h₀ := X.base) I.ok.mod.kin hk (thn (ha.run pos pins s σ H _ I h) fun us s1 ⟨vs, H1, I1, r, q⟩ => ⟨I1.kIn, ?_⟩) he hpl
  exact run_fnG F gu hr hb hx I1 r q
end
end Rn
namespace Rn
open PySem PySem.Spec PyProof.Rows L2
/-! ## repr of None, a bool, an int -/
def rReprS : List V → Hp → VK → Prop := fun xs H Q => (xs = [.non] ∧ Q (.str "None") H) ∨ (∃ b, xs = [.bl b] ∧ Q (.str (if b then "True" else "False")) H) ∨ (∃ i : Int, xs = [.int i] ∧ i.natAbs.log2 < 1920 ∧ Q (.str (toString i)) H)
section
variable {X : Cx}
theorem call_reprS : CallR X (.builtin "repr") rReprS := by
  intro pins s σ H xs us Q I r h
  rcases h with ⟨rfl, q⟩ | ⟨b, rfl, q⟩ | ⟨i, rfl, hi, q⟩
  · cases r with
    | cons r1 r2 =>
      cases r2
      cases r1
      exact PySem.P.repr_of_none ⟨.str _, H, I.tok _, ⟨_, rfl⟩, q⟩
  · cases r with
    | cons r1 r2 =>
      cases r2
      cases r1
      exact PySem.P.repr_of_bool ⟨.str _, H, I.tok _, ⟨_, rfl⟩, q⟩
  · cases r with
    | cons r1 r2 =>
      cases r2
      obtain ⟨t, rfl⟩ := r1
      exact PySem.P.repr_of_int hi ⟨.str _, H, I.tok _, ⟨_, rfl⟩, q⟩
end
end Rn

set_option Elab.async false
set_option linter.all false
set_option maxRecDepth 100000
set_option maxHeartbeats 4000000
namespace Rn
open PySem PySem.Spec PyProof.Rows L2
/-! # == and != of instances with a def for == -/
section
variable {prog : Program} {w : World} {A : Around} {E : Value → Shared → Prop} {s : Shared} {K : PySem.W.Frag} {x C f : Addr} {ox : Obj} {od : Option Obj} {b : Value}
theorem objNe_in {Q : Fin → Shared → Prop} (X : K.In s.heap) (I : PySem.W.InstAt s.heap x ox C od) (he : PySem.W.findIn K (.ref C) "__eq__" = some (some (.ref f))) (hf : PySem.W.isFn K (.ref f) = true) (hu : A.units < cLine)
    (h : wpAny (model prog w) A (call (.ref f) [.ref x, b]) (fun v s' => ∃ t, v = .bool t ∧ Q (.done (.ret (.bool (!t)))) s') E s) :
    wpAny (model prog w) A (Builtin.«object.__ne__» ⟨[.ref x, b], []⟩) Q E s := by
  unfold Builtin.«object.__ne__»
  repeat (first
    | with_reducible refine wpAny_cRoomFor hu ?_
    | (refine wpAny_bind (m := callSpecialIfBound? (.ref x) (Str.ofString "__eq__") [b])
        (PySem.W.ifBound_K X I he hf (wpAny_mono h (fun r s' hr => by
          obtain ⟨t, rfl, hq⟩ := hr
          repeat (first | exact hq | exact wpAny_pure hq | exact wpAny_truthy_bool hq | (refine wpAny_bind (m := truthy (.bool _)) (wpAny_truthy_bool ?_)) | wp_step)) fun _ _ e => e)))
    | wp_step)
theorem call_objNe {Q : Value → Shared → Prop} (X : K.In s.heap) (I : PySem.W.InstAt s.heap x ox C od) (hm : PySem.W.mroIn K C (.type "object") = some true) (he : PySem.W.findIn K (.ref C) "__eq__" = some (some (.ref f))) (hf : PySem.W.isFn K (.ref f) = true)
    (hu : A.units + 1 < cLine) (h : wpAny (model prog w) A.in1 (call (.ref f) [.ref x, b]) (fun v s' => ∃ t, v = .bool t ∧ Q (.bool (!t)) s') E s) :
    wpAny (model prog w) A (call (.builtin "object.__ne__") [.ref x, b]) Q E s :=
  wpAny_call (codeAny_call_builtin F.cmp_object.ne.plain F.cmpEntry_ne (PySem.W.check_slot F.cmpKind_ne F.cmpSplit_ne (I.type.andThen (PySem.W.looks_mroIn X hm)) (F.cmpArgs_ne _ _)
    (objNe_in (A := A.in1) X I he hf hu h)))
theorem ifBound_objNe {args : List Value} {Q : Option Value → Shared → Prop} {M : Model} (X : K.In s.heap) (I : PySem.W.InstAt s.heap x ox C od) (hs : PySem.W.findIn K (.ref C) "__ne__" = some (some (.builtin "object.__ne__")))
    (h : wpAny M A (call (.builtin "object.__ne__") (.ref x :: args)) (fun v => Q (some v)) E s) : wpAny M A (callSpecialIfBound? (.ref x) "__ne__" args) Q E s := by
  simp only [callSpecialIfBound?, bindSpecialIfBound?]
  refine wpAny_holding (wpAny_bind (wpAny_bind (wpAny_bind (I.type.here ((PySem.W.looks_findIn X hs).here ?_)))))
  refine wpAny_bind (wpAny_askSetting (wpAny_ite ?_))
  have fin : wpAny M A (call (.builtin "object.__ne__") ([.ref x] ++ args) >>= fun v => pure (some v)) Q E s := wpAny_bind (wpAny_mono h (fun v s' h' => wpAny_pure h') fun _ _ h' => h')
  split
  · exact wpAny_bind (wpAny_of_eq (F.cmp_object.ne.bind _) (wpAny_pure (by exact fin)))
  · exact wpAny_tryCatch (wpAny_bind (wpAny_of_eq (F.cmp_object.ne.bind _) (wpAny_pure (by exact fin))))
theorem rc_objNe {y : Addr} {oy : Obj} {ody : Option Obj} {Q : Value → Shared → Prop} (X : K.In s.heap) (I : PySem.W.InstAt s.heap x ox C od) (J : PySem.W.InstAt s.heap y oy C ody) (hm : PySem.W.mroIn K C (.type "object") = some true)
    (hs : PySem.W.findIn K (.ref C) "__ne__" = some (some (.builtin "object.__ne__"))) (he : PySem.W.findIn K (.ref C) "__eq__" = some (some (.ref f))) (hf : PySem.W.isFn K (.ref f) = true) (hu : A.units + 1 < cLine)
    (h : wpAny (model prog w) A.in1 (call (.ref f) [.ref x, .ref y]) (fun v s' => ∃ t, v = .bool t ∧ Q (.bool (!t)) s') E s) : wpAny (model prog w) A (richCompare .NotEq (.ref x) (.ref y)) Q E s := by
  have one : wpAny (model prog w) A (tryCompare (.ref x) "__ne__" (.ref y)) (fun r s' => ∃ v, r = some v ∧ Q v s') E s := by
    unfold tryCompare
    refine wpAny_bind (ifBound_objNe X I hs (call_objNe X I hm he hf hu (wpAny_mono h (fun v s' hv => ?_) fun _ _ e => e)))
    obtain ⟨t, e, hq⟩ := hv
    exact ⟨t, e, wpAny_pure ⟨_, rfl, hq⟩⟩
  simp only [richCompare, cmpInfo_NotEq, oneThing_ref]
  refine wpAny_holding (wpAny_bind (wpAny_cRoomFor (Nat.lt_of_succ_lt hu) ?_))
  refine wpAny_bind (I.type.here (wpAny_bind (J.type.here ?_)))
  split
  · rename_i q
    exact absurd q (by simp)
  · refine wpAny_bind (wpAny_pure ?_)
    simp only [Bool.false_eq_true, if_false]
    refine wpAny_bind (m := tryCompare (.ref x) _ (.ref y)) (wpAny_mono one (fun r s' z => ?_) fun _ _ e => e)
    obtain ⟨v, rfl, hq⟩ := z
    exact wpAny_pure hq
end
/-- what == and != ask of the class at C with a def for == -/
structure EqC (K : PySem.W.Frag) (C f : Addr) : Prop where
  eq : Meth K C "__eq__" f
  ne : PySem.W.findIn K (.ref C) "__ne__" = some (some (.builtin "object.__ne__"))
  ob : PySem.W.mroIn K C (.type "object") = some true
section
variable {X : Cx} {CX : CXT} {k : Nat} {C f : Addr} {fd : FuncData} {ps : List Str} {sp : Sp} {E : XK}
/-- x == y (neg: x != y), both instances of the class at C -/
def rEqI (C : Addr) (sp : Sp) (E : XK) (neg : Bool) : R2 := fun x y H Q => ∃ p q dx dy fs gs, x = .ref p ∧ y = .ref q ∧ H p = some (.ins C dx fs) ∧ H q = some (.ins C dy gs) ∧
  sp [.ref p, .ref q] H (fun z H3 => ∃ t, z = .bl t ∧ Q (.bl (if neg then !t else t)) H3) E
theorem run_fnA {A : Around} {pins : List (Addr × Obj)} {σ : L2.St} {H : Hp} {s : Shared} {Q : VK} {us : List Value} {vs : List V} (F : FnOk X.prog X.w X.K X.mg X.base CX k f fd ps sp) (hr : Room k A) (e0 : Env0 X.prog X.w X.K X.mg X.base A X.stack s H) (hb : L2.Binds X.K fd ps [])
    (hx : Passes CX X E) (I : Inv X pins σ H s) (r : Vals vs us) (h : sp vs H Q E) : wpAny (model X.prog X.w) A (call (.ref f) us) (EP X pins σ Q) X.xe s := by
  have hl : us.length = ps.length := by rw [← r.length]; exact F.len _ _ _ _ h
  refine wpAny_call (codeAny_mono (F.run A X.stack s H ⟨us, []⟩ us vs Q E hr e0 (by
    have := hb s us I.kIn (by simpa using hl)
    simpa using this) r h) fun r s' hq => ?_)
  cases r with
  | error e => exact hx pins σ H s e s' I hq
  | ok fl =>
    cases fl with
    | ret u => exact I.after hq
    | next => exact False.elim hq
    | brk => exact False.elim hq
    | cont => exact False.elim hq
theorem op_eqI (c : EqC X.K C f) (F : FnOk X.prog X.w X.K X.mg X.base CX k f fd ps sp) (hr : Room k X.A) (hb : L2.Binds X.K fd ps []) (hx : Passes CX X E) : OpR X (compareOp .Eq) (rEqI C sp E false) := by
  intro pins s σ H x y v u Q I rx ry h
  obtain ⟨a, b, dx, dy, fs, gs, rfl, rfl, ha, hb', q⟩ := h
  cases rx
  cases ry
  obtain ⟨mA, J, _⟩ := ins_get I.hok ha
  obtain ⟨mB, J', _⟩ := ins_get I.hok hb'
  obtain ⟨od, J, _⟩ := J.look
  obtain ⟨od', J', _⟩ := J'.look
  obtain ⟨m, hF⟩ := I.fr
  show wpAny (model X.prog X.w) X.A (richCompare .Eq (.ref a) (.ref b)) (EP X pins σ Q) X.xe s
  refine PySem.W.cmp_K (op := .Eq) (tb := .ref C) hr.units0 hF I.ok.mod.kin J J'.type (by simp [PySem.W.notFirst]) c.eq.at_ c.eq.fn ?_
  refine wpAny_mono (run_fnA F hr I.env0 hb hx I (vs := [V.ref a, V.ref b]) (.cons rfl (.cons rfl .nil)) q) (fun w s' z => ?_) fun _ _ x => x
  obtain ⟨z', H', I', rz, t, et, qz⟩ := z
  subst et
  cases rz
  exact ⟨.bl t, H', I', rfl, qz⟩
theorem op_neI (c : EqC X.K C f) (F : FnOk X.prog X.w X.K X.mg X.base CX k f fd ps sp) (hr : Room (k + 1) X.A) (hb : L2.Binds X.K fd ps []) (hx : Passes CX X E) : OpR X (compareOp .NotEq) (rEqI C sp E true) := by
  intro pins s σ H x y v u Q I rx ry h
  obtain ⟨a, b, dx, dy, fs, gs, rfl, rfl, ha, hb', q⟩ := h
  cases rx
  cases ry
  obtain ⟨mA, J, _⟩ := ins_get I.hok ha
  obtain ⟨mB, J', _⟩ := ins_get I.hok hb'
  obtain ⟨od, J, _⟩ := J.look
  obtain ⟨od', J', _⟩ := J'.look
  obtain ⟨m, hF⟩ := I.fr
  show wpAny (model X.prog X.w) X.A (richCompare .NotEq (.ref a) (.ref b)) (EP X pins σ Q) X.xe s
  have hu : X.A.units + 1 < cLine := (hr.in1).units0
  refine rc_objNe I.kIn J J' c.ob c.ne c.eq.at_ c.eq.fn hu ?_
  refine wpAny_mono (run_fnA F hr.in1 I.env0.in1 hb hx I (vs := [V.ref a, V.ref b]) (.cons rfl (.cons rfl .nil)) q) (fun w s' z => ?_) fun _ _ x => x
  obtain ⟨z', H', I', rz, t, et, qz⟩ := z
  subst et
  cases rz
  exact ⟨t, rfl, .bl (!t), H', I', rfl, qz⟩
end
end Rn

set_option Elab.async false
set_option linter.all false
set_option maxRecDepth 100000
set_option maxHeartbeats 4000000
namespace PySem.SeqAt
open AutoSeq1 (wpAny_loadPart')
open MeetsSeq
theorem int_eq_ins (b : Int) (u : Tok) (l : Addr) (o : Obj) (hd : o.data = .plain) :
    Meets (Builtin.«int.__eq__» ⟨[.int b u, .ref l], []⟩) (fun _ R s => s.heap.get? l = some o ∧ R (.ok (.ret .notImplemented)) s) :=
  .of_wp fun prog w A R s h => by
    obtain ⟨c, dd, dt, sl⟩ := o
    simp only at hd
    subst hd
    obtain ⟨hp, g, d, tk, os⟩ := s; obtain ⟨hl, h⟩ := h; wp_walk using wpAny_loadPart' hl, wpAny_load hl; exact ⟨_, rfl, h⟩
theorem str_eq_ins (b : Str) (u : Tok) (l : Addr) (o : Obj) (hd : o.data = .plain) :
    Meets (Builtin.«str.__eq__» ⟨[.str b u, .ref l], []⟩) (fun _ R s => s.heap.get? l = some o ∧ R (.ok (.ret .notImplemented)) s) :=
  .of_wp fun prog w A R s h => by
    obtain ⟨c, dd, dt, sl⟩ := o
    simp only at hd
    subst hd
    obtain ⟨hp, g, d, tk, os⟩ := s; obtain ⟨hl, h⟩ := h; wp_walk using wpAny_loadPart' hl, wpAny_load hl; exact ⟨_, rfl, h⟩
section
variable {prog : Program} {w : World} {A : Around} {E : Value → Shared → Prop} {s : Shared}
theorem list_eq_ins {l x C : Addr} {items : Array Value} {n : Nat} {dd : Option Addr} {sl : Array (Option Value)} {o : Obj} {Q : Fin → Shared → Prop} (hl : s.heap.get? l = some { cls := .type "list", dict := dd, data := .seq items n, slots := sl }) (hx : s.heap.get? x = some o) (hc : o.cls = .ref C)
    (hm : PySem.W.Looks (model prog w) s.heap (isSubtype (.ref C) (.type "list")) false) (h : Q (.done (.ret .notImplemented)) s) : wpAny (model prog w) A (Builtin.«list.__eq__» ⟨[.ref l, .ref x], []⟩) Q E s := by
  obtain ⟨c, d2, dt, sl2⟩ := o
  simp only at hc
  subst hc
  obtain ⟨hp, g, d, tk, os⟩ := s
  wp_walk using wpAny_loadPart' hl, wpAny_loadPart' hx, wpAny_load hx
  refine hm.here ?_
  wp_walk
  exact h
theorem rc_item {it : Value} {T id : String} {x C f : Addr} {K : PySem.W.Frag} {ox : Obj} {od : Option Obj} {Q : Value → Shared → Prop} (hT : s.TypeIs it T) (slot : Slot T (cmpInfo .Eq).2.1 id)
    (dec : ∀ Q' : Value → Shared → Prop, Q' .notImplemented s → wpAny (model prog w) A (call (.builtin id) [it, .ref x]) Q' E s) (X : K.In s.heap) (I : PySem.W.InstAt s.heap x ox C od) (hm : PySem.W.mroIn K C (.type T) = some false)
    (he : PySem.W.findIn K (.ref C) "__eq__" = some (some (.ref f))) (hf : PySem.W.isFn K (.ref f) = true) (hu : A.units < cLine)
    (h : wpAny (model prog w) A (call (.ref f) [.ref x, it]) (PySem.W.CmpBack Q) E s) : wpAny (model prog w) A (richCompare .Eq it (.ref x)) Q E s := by
  have two : wpAny (model prog w) A (tryCompare (.ref x) "__eq__" it) (fun r s' => ∃ v, r = some v ∧ Q v s') E s := by
    unfold tryCompare
    refine wpAny_bind (PySem.W.ifBound_K X I he hf (wpAny_mono h (fun v s' hv => ?_) fun _ _ e => e))
    cases v <;> first | exact hv.elim | exact wpAny_pure ⟨_, rfl, hv⟩
  simp only [richCompare, cmpInfo_Eq, hT.oneThing_none]
  refine wpAny_holding (wpAny_bind (wpAny_cRoomFor hu ?_))
  refine wpAny_bind (wpAny_typeOf hT ?_)
  refine wpAny_bind (I.type.here ?_)
  have hne : (Value.type T != Value.ref C) = true := by simp
  simp only [hne, if_true]
  refine wpAny_bind ((PySem.W.looks_mroIn X hm).here ?_)
  simp only [Bool.false_eq_true, if_false, Bool.not_false, if_true]
  refine wpAny_bind (m := tryCompare it _ (.ref x)) (wpAny_tryCompare_declines hT slot (dec _ ⟨rfl, ?_⟩))
  refine wpAny_bind (m := tryCompare (.ref x) _ it) (wpAny_mono two (fun r s' z => ?_) fun _ _ e => e)
  obtain ⟨v, rfl, hq⟩ := z
  exact wpAny_pure hq
theorem eqBool_of {it : Value} {x : Addr} {Q : Bool → Shared → Prop} (hne : it ≠ .ref x) (hnf : ∀ b t, it ≠ .float b t) (h : wpAny (model prog w) A (richCompare .Eq it (.ref x)) (fun v s' => ∃ r, v = .bool r ∧ Q r s') E s) : wpAny (model prog w) A (eqBool it (.ref x)) Q E s := by
  unfold eqBool
  refine wpAny_holding ?_
  refine wpAny_ite_split (fun hab => absurd (eq_of_beq hab) hne) (fun _ => ?_)
  have fin := wpAny_bind (f := fun v => truthOfDropped v) (wpAny_mono h (Q' := fun v s' => wpAny (model prog w) A (truthOfDropped v) Q E s') (fun v s' hv => by
    obtain ⟨r, rfl, q⟩ := hv
    exact wpAny_truthy_bool q) fun _ _ e => e)
  cases it <;> first | exact absurd rfl (hnf _ _) | exact fin
end
section
variable {prog : Program} {w : World} {A : Around} {R : Result → Shared → Prop}
/-- no item is equal; a turn may change the state, but not what J says: the list is read anew at each turn -/
def ListJ (prog : Program) (w : World) (A : Around) (E : Value → Shared → Prop) (l : Addr) (x : Value) (N : Nat) (J : Shared → Prop) : Prop :=
  ∀ i s, J s → ∃ (items : Array Value) (n : Nat) (dd : Option Addr) (sl : Array (Option Value)), s.heap.get? l = some { cls := .type "list", dict := dd, data := .seq items n, slots := sl } ∧ items.size = N ∧
    ∀ (h : i < items.size), wpAny (model prog w) A.in1 (eqBool items[i] x) (fun r s' => r = false ∧ J s') E s
theorem contains_loopJ (l : Addr) (N : Nat) (x : Value) (J : Shared → Prop) (hl : ListJ prog w A (fun e s' => R (.error e) s') l x N J)
    (fin : ∀ s, J s → R (.ok (.ret (.bool false))) s) (k : Nat) :
    ∀ i : Nat, N - i = k → ∀ s, J s → wpAny (model prog w) A.in1 (Builtin.«list.__contains__.loop» ⟨[.ref l, x, rawInt i], []⟩) (GQ.FinOf prog w A R) (fun e s' => R (.error e) s') s := by
  induction k with
  | zero =>
    intro i hk s h
    obtain ⟨items, n, dd, sl, hl', hN, _⟩ := hl i _ h
    have hR := fin _ h
    obtain ⟨hp, g, d, tk, os⟩ := s
    wp_walk using wpAny_loadPart' hl'
    have hi : items[((i : Nat) : Int).toNat]? = none := by simp; omega
    rw [hi]
    wp_walk
    exact hR
  | succ k ih =>
    intro i hk s h
    obtain ⟨items, n, dd, sl, hl', hN, turn⟩ := hl i _ h
    have hlt : i < items.size := by omega
    have ht := turn hlt
    obtain ⟨hp, g, d, tk, os⟩ := s
    wp_walk using wpAny_loadPart' hl'
    have hi : items[((i : Nat) : Int).toNat]? = some items[i] := by simp [hlt]
    rw [hi]
    refine wpAny_bind (wpAny_mono ht (fun r s2 h2 => ?_) fun _ _ x => x)
    obtain ⟨hr, h2⟩ := h2
    subst hr
    have hrec := ih (i + 1) (by omega) s2 h2
    have hc : ((i : Int) + 1) = ((i + 1 : Nat) : Int) := by push_cast; rfl
    obtain ⟨hp2, g2, d2, tk2, os2⟩ := s2
    wp_walk
    rw [hc]
    exact ⟨plainId_quiet plain_contains_loop _, codeAny_builtin entry_contains_loop (by
      rw [Around.under_plainId plain_contains_loop _]
      exact hrec)⟩
theorem list_containsJ (l : Addr) (N : Nat) (x : Value) (J : Shared → Prop) (hl : ListJ prog w A (fun e s' => R (.error e) s') l x N J)
    (fin : ∀ s, J s → R (.ok (.ret (.bool false))) s) (s : Shared) (h : J s) : wpAny (model prog w) A.in1 (Builtin.«list.__contains__» ⟨[.ref l, x], []⟩) (GQ.FinOf prog w A R) (fun e s' => R (.error e) s') s := by
  obtain ⟨items, n, dd, sl, hl', hN, _⟩ := hl 0 _ h
  have hrec := contains_loopJ (A := A) (R := R) l N x J hl fin _ 0 rfl s h
  obtain ⟨hp, g, d, tk, os⟩ := s
  wp_walk using wpAny_loadPart' hl'
  exact ⟨plainId_quiet plain_contains_loop _, codeAny_builtin entry_contains_loop (by
    rw [Around.under_plainId plain_contains_loop _]
    exact hrec)⟩
end
section
variable {prog : Program} {w : World} {A : Around} {E : Value → Shared → Prop} {s : Shared}
theorem notIn_listJ {l : Addr} {N : Nat} {x : Value} {Q : Value → Shared → Prop} (J : Shared → Prop) (hl : ListJ prog w A E l x N J) (fin : ∀ s, J s → Q (.bool true) s) (h : J s) : wpAny (model prog w) A (compareOp .NotIn x (.ref l)) Q E s := by
  show wpAny _ A (do return .bool (!(← contains (.ref l) x))) Q E s
  obtain ⟨items, n, dd, sl, hl', hN, _⟩ := hl 0 _ h
  refine wpAny_bind (wpAny_contains_slot ⟨_, hl', rfl⟩ F.slot_list_contains (wpAny_mono (GQ.call_here (Q := fun v s' => ∃ b, v = .bool b ∧ Q (.bool (!b)) s') F.slot_list_contains ⟨_, hl', rfl⟩ F.entry_list_contains (F.args_list_contains_2 _ _) ?_) (fun v s' hv => ?_) fun _ _ e => e))
  · exact list_containsJ (R := wants (fun v s' => ∃ b, v = .bool b ∧ Q (.bool (!b)) s') E) l N x J hl (fun s' q => ⟨false, rfl, fin s' q⟩) s h
  · obtain ⟨b, rfl, hq⟩ := hv
    exact wpAny_truthy_bool (wpAny_pure hq)
end
end PySem.SeqAt
namespace Rn
open PySem PySem.Spec PyProof.Rows L2
/-- what is no runner -/
def Item (H : Hp) (z : V) : Prop := z = .non ∨ (∃ i, z = .int i) ∨ (∃ t, z = .str t) ∨ ∃ l xs, z = .ref l ∧ H l = some (.lst xs)
/-- the class at C is below none of these -/
structure NoKin (K : PySem.W.Frag) (C : Addr) : Prop where
  non : PySem.W.mroIn K C (.type "NoneType") = some false
  int : PySem.W.mroIn K C (.type "int") = some false
  str : PySem.W.mroIn K C (.type "str") = some false
  lst : PySem.W.mroIn K C (.type "list") = some false
section
variable {X : Cx} {CX : CXT} {k : Nat} {C f : Addr} {fd : FuncData} {ps : List Str} {sp : Sp} {E : XK}
/-- x not in xs: x an instance of the class at C whose def says no to all of them -/
def rNoEq (C : Addr) (sp : Sp) (E : XK) : R2 := fun x y H Q => ∃ p l dx fs xs, x = .ref p ∧ y = .ref l ∧ H p = some (.ins C dx fs) ∧ H l = some (.lst xs) ∧ (∀ z ∈ xs, Item H z) ∧ (∀ z ∈ xs, sp [.ref p, z] H (fun v H' => v = .bl false ∧ H' = H) E) ∧ Q (.bl true) H
theorem op_notInI (c : EqC X.K C f) (nk : NoKin X.K C) (Fo : FnOk X.prog X.w X.K X.mg X.base CX k f fd ps sp) (hr : Room (k + 1) X.A) (hb : L2.Binds X.K fd ps []) (hx : Passes CX X E) : OpR X (compareOp .NotIn) (rNoEq C sp E) := by
  intro pins s σ H x y v u Q I rx ry h
  obtain ⟨p, l, dx, fs, xs, rfl, rfl, hp, hl, items, says, q⟩ := h
  cases rx
  cases ry
  refine PySem.SeqAt.notIn_listJ (N := xs.length) (fun s' => Inv X pins σ H s') (fun i s' I' => ?_) (fun s' I' => ⟨.bl true, H, I', rfl, q⟩) I
  obtain ⟨z, its, n, r, e⟩ := I'.hok l _ hl
  refine ⟨its.toArray, n, _, _, e, by rw [List.size_toArray, ← r.length], fun h => ?_⟩
  have hi : i < its.length := by simpa using h
  have hi2 : i < xs.length := by rw [r.length]; exact hi
  obtain ⟨uv, hu, ru⟩ := r.get (List.getElem?_eq_getElem hi2)
  rw [List.getElem?_eq_getElem hi] at hu
  have eu : its.toArray[i] = uv := by
    have := Option.some.inj hu
    simpa using this
  rw [eu]
  have hm := List.getElem_mem hi2
  have it := items _ hm
  have sy := says _ hm
  generalize xs[i] = zv at *
  obtain ⟨mA, J, _⟩ := ins_get I'.hok hp
  obtain ⟨od, J, _⟩ := J.look
  have hcall : wpAny (model X.prog X.w) X.A.in1 (call (.ref f) [.ref p, uv]) (PySem.W.CmpBack fun v s' => ∃ r, v = .bool r ∧ r = false ∧ Inv X pins σ H s') X.xe s' := by
    refine wpAny_mono (run_fnA Fo hr.in1 I'.env0.in1 hb hx I' (vs := [V.ref p, zv]) (.cons rfl (.cons ru .nil)) sy) (fun w s2 z => ?_) fun _ _ x => x
    obtain ⟨z', H', I2, rz, ez, eh⟩ := z
    subst ez
    subst eh
    cases rz
    exact ⟨false, rfl, rfl, I2⟩
  have hu1 : X.A.in1.units < cLine := hr.in1.units0
  rcases it with rfl | ⟨j, rfl⟩ | ⟨t, rfl⟩ | ⟨l2, ys, rfl, h2⟩
  · cases ru
    exact PySem.SeqAt.eqBool_of (fun z => nomatch z) (fun _ _ z => nomatch z) (PySem.SeqAt.rc_item (T := "NoneType") rfl F.slot_NoneType_eq
      (fun _ hq => PySem.call_gives F.slot_NoneType_eq rfl F.entry_NoneType_eq (F.args_NoneType_eq_2 _ _) (PySem.SeqAt.NoneType___eq___none_ref_0 p) hq) I'.kIn J nk.non c.eq.at_ c.eq.fn hu1 hcall)
  · obtain ⟨t, rfl⟩ := ru
    exact PySem.SeqAt.eqBool_of (fun z => nomatch z) (fun _ _ z => nomatch z) (PySem.SeqAt.rc_item (T := "int") (typeIs_int _ _ _) F.slot_int_eq
      (fun _ hq => call_meets F.slot_int_eq (typeIs_int _ _ _) F.entry_int_eq (F.args_int_eq_2 _ _) (PySem.SeqAt.int_eq_ins j t p _ rfl) ⟨J.at_, hq⟩) I'.kIn J nk.int c.eq.at_ c.eq.fn hu1 hcall)
  · obtain ⟨u, rfl⟩ := ru
    exact PySem.SeqAt.eqBool_of (fun z => nomatch z) (fun _ _ z => nomatch z) (PySem.SeqAt.rc_item (T := "str") (typeIs_str _ _ _) F.slot_str_eq
      (fun _ hq => call_meets F.slot_str_eq (typeIs_str _ _ _) F.entry_str_eq (F.args_str_eq_2 _ _) (PySem.SeqAt.str_eq_ins t u p _ rfl) ⟨J.at_, hq⟩) I'.kIn J nk.str c.eq.at_ c.eq.fn hu1 hcall)
  · cases ru
    obtain ⟨z2, its2, n2, r2, e2⟩ := I'.hok l2 _ h2
    have ne : l2 ≠ p := fun z => by rw [z, hp] at h2; cases h2
    exact PySem.SeqAt.eqBool_of (fun z => ne (by injection z)) (fun _ _ z => nomatch z) (PySem.SeqAt.rc_item (T := "list") ⟨_, e2, rfl⟩ F.slot_list_eq
      (fun Q' hq => GQ.call_here F.slot_list_eq ⟨_, e2, rfl⟩ F.entry_list_eq (F.args_list_eq_2 _ _) (PySem.SeqAt.list_eq_ins e2 J.at_ rfl (PySem.W.looks_mroIn I'.kIn nk.lst) hq)) I'.kIn J nk.lst c.eq.at_ c.eq.fn hu1 hcall)
end
end Rn
namespace Rn
open PySem PySem.Spec PyProof.Rows L2
section
variable {X : Cx} {CX : CXT} {k : Nat} {C f : Addr} {fd : FuncData} {ps ks : List Str} {sp : Sp} {E : XK} {m : Str} {pos apos : Pos} {o : Expr} {kws : List Keyword} {ta : TE} {tk : TA} {g : List Value → List Value → List Value} {gV : List V → List V → List V}
/-- o.m(k = v, ..) -/
def tMethK (C : Addr) (m : Str) (n : Nat) (sp : Sp) (gV : List V → List V → List V) (E : XK) (ta : TE) (tk : TA) : TE := fun σ H Q => ta σ H fun x H1 => ∃ a dx fs, x = .ref a ∧ H1 a = some (.ins C dx fs) ∧ fs.lookup m = none ∧ tk σ H1 fun zs H2 => zs.length = n ∧ sp (gV [.ref a] zs) H2 Q E
theorem pe_methK {pl : Sem Bool} (he : PE X o ta) (c : Cls X.K C) (hm : Meth X.K C m f) (F : FnOk X.prog X.w X.K X.mg X.base CX k f fd ps sp) (hr : Room k X.A) (hb : KBn X.K fd ps 1 ks g gV) (hx : Passes CX X E) (hkw : PK X kws tk)
    (hall : (backToKw pos (keywordEach kws X.env)).all (·.1.isSome) = true := by rfl) (hks : (backToKw pos (keywordEach kws X.env)).filterMap (·.1) = ks := by rfl)
    (hpl : ((backTo pos (starEach [] X.env)).any (·.1) || (backToKw pos (keywordEach kws X.env)).any (·.1.isNone)) = false := by rfl)
    (ht : eval (.Call (.Attribute o m apos) [] kws pos) X.env = (do let ov ← eval o X.env; standAt apos.atName; let (f, first) ← holding [ov] (getMethod ov m pl); callWith pos f first (backTo pos (starEach [] X.env)) (backToKw pos (keywordEach kws X.env))) := by rfl) :
    PE X (.Call (.Attribute o m apos) [] kws pos) (tMethK C m ks.length sp gV E ta tk) := by
  refine ⟨fun pins s σ H Q I h => PySem.W.methodCall_KW (pl := pl) (thn (he.run pins s σ H _ I h) fun u s1 ⟨x, H1, I1, rx, a, dx, fs, ex, ea, l, q⟩ => ?_) ht⟩
  subst ex
  obtain rfl : u = Value.ref a := rx
  refine getmeth_ok I1 ea c hm l (PySem.W.callWith_KW0 (first := [.ref a]) (h₀ := X.base) I.ok.mod.kin hm.kp hall (thn (hkw.run pos pins s1 σ H1 _ I1 q) fun ws s2 ⟨zs, H2, I2, rz, l2, q2⟩ => ⟨I2.kIn, ?_⟩) hpl)
  rw [hks]
  exact run_fnN (us := [.ref a]) (vs := [.ref a]) F hr hb hx I2 (.cons rfl .nil) rz rfl l2 q2
end
end Rn


namespace Rn
open PySem PySem.Spec PyProof.Rows L2
/-! ## the text -/
def topS (i : Nat) : Stmt := PySem.Challenge.pw_retrynest_k25_equal_runners_and_copies.main.body.getD i (.Pass ⟨0, 0, 0, 0⟩)
abbrev s_first_negative : Stmt := topS 7
abbrev s_is_valid_layer : Stmt := topS 8
abbrev s_check_nesting : Stmt := topS 9
abbrev s_repeats : Stmt := topS 11
abbrev s_is_inner_number : Stmt := topS 12
abbrev s_smallest_inner_number : Stmt := topS 14
abbrev s_list_parts : Stmt := topS 15
abbrev s_layer_parts : Stmt := topS 16
abbrev s_same_constant : Stmt := topS 17
abbrev s_merged : Stmt := topS 18
abbrev s_normal_form : Stmt := topS 19
abbrev s_layer_attempts : Stmt := topS 21
abbrev s_attempts : Stmt := topS 22
abbrev s_law_pool : Stmt := topS 26
abbrev s_law_draw : Stmt := topS 27
abbrev s_law_size : Stmt := topS 28
abbrev s_law_wait : Stmt := topS 29
abbrev s_law_tier : Stmt := topS 30
abbrev s_law_small : Stmt := topS 31
abbrev s_law_flat : Stmt := topS 33
abbrev s_law_near : Stmt := topS 35
abbrev s_law_rewritten : Stmt := topS 36
abbrev s_law_right : Stmt := topS 37
abbrev s_law : Stmt := topS 38
abbrev s_Runner_init : Stmt := inClass (topS 24) 0
abbrev s_Runner_eq : Stmt := inClass (topS 24) 1
abbrev s_Runner_left : Stmt := inClass (topS 24) 4
abbrev s_Runner_fail : Stmt := inClass (topS 24) 6
abbrev s_Runner_wrap : Stmt := inClass (topS 24) 7
theorem sc_first_negative : FnScope ["waits", "index", "wait"] ["waits"] (defScope s_first_negative) := ⟨rfl, rfl, rfl, by decide +kernel, rfl, by decide +kernel, by decide +kernel⟩
theorem sc_is_valid_layer : FnScope ["layer", "wait", "count"] ["layer"] (defScope s_is_valid_layer) := ⟨rfl, rfl, rfl, by decide +kernel, rfl, by decide +kernel, by decide +kernel⟩
theorem sc_check_nesting : FnScope ["nesting", "index", "layer"] ["nesting"] (defScope s_check_nesting) := ⟨rfl, rfl, rfl, by decide +kernel, rfl, by decide +kernel, by decide +kernel⟩
theorem sc_repeats : FnScope ["waits", "number", "block", "start"] ["waits", "number"] (defScope s_repeats) := ⟨rfl, rfl, rfl, by decide +kernel, rfl, by decide +kernel, by decide +kernel⟩
theorem sc_is_inner_number : FnScope ["waits", "number"] ["waits", "number"] (defScope s_is_inner_number) := ⟨rfl, rfl, rfl, by decide +kernel, rfl, by decide +kernel, by decide +kernel⟩
theorem sc_smallest_inner_number : FnScope ["waits", "count", "number"] ["waits"] (defScope s_smallest_inner_number) := ⟨rfl, rfl, rfl, by decide +kernel, rfl, by decide +kernel, by decide +kernel⟩
theorem sc_list_parts : FnScope ["waits", "parts", "rest", "number", "part"] ["waits"] (defScope s_list_parts) := ⟨rfl, rfl, rfl, by decide +kernel, rfl, by decide +kernel, by decide +kernel⟩
theorem sc_layer_parts : FnScope ["layer"] ["layer"] (defScope s_layer_parts) := ⟨rfl, rfl, rfl, by decide +kernel, rfl, by decide +kernel, by decide +kernel⟩
theorem sc_same_constant : FnScope ["first", "second"] ["first", "second"] (defScope s_same_constant) := ⟨rfl, rfl, rfl, by decide +kernel, rfl, by decide +kernel, by decide +kernel⟩
theorem sc_merged : FnScope ["layers", "found", "layer", "wait", "count"] ["layers"] (defScope s_merged) := ⟨rfl, rfl, rfl, by decide +kernel, rfl, by decide +kernel, by decide +kernel⟩
theorem sc_normal_form : FnScope ["nesting", "layer", "part"] ["nesting"] (defScope s_normal_form) := ⟨rfl, rfl, rfl, by decide +kernel, rfl, by decide +kernel, by decide +kernel⟩
theorem sc_layer_attempts : FnScope ["layer"] ["layer"] (defScope s_layer_attempts) := ⟨rfl, rfl, rfl, by decide +kernel, rfl, by decide +kernel, by decide +kernel⟩
theorem sc_attempts : FnScope ["nesting", "total", "layer"] ["nesting"] (defScope s_attempts) := ⟨rfl, rfl, rfl, by decide +kernel, rfl, by decide +kernel, by decide +kernel⟩
theorem sc_law_pool : FnScope ["script", "at", "cell"] ["script", "at"] (defScope s_law_pool) := ⟨rfl, rfl, rfl, by decide +kernel, rfl, by decide +kernel, by decide +kernel⟩
theorem sc_law_draw : FnScope ["pool", "many", "drawn", "mixed"] ["pool", "many"] (defScope s_law_draw) := ⟨rfl, rfl, rfl, by decide +kernel, rfl, by decide +kernel, by decide +kernel⟩
theorem sc_law_size : FnScope ["tier"] ["tier"] (defScope s_law_size) := ⟨rfl, rfl, rfl, by decide +kernel, rfl, by decide +kernel, by decide +kernel⟩
theorem sc_law_wait : FnScope ["pool"] ["pool"] (defScope s_law_wait) := ⟨rfl, rfl, rfl, by decide +kernel, rfl, by decide +kernel, by decide +kernel⟩
theorem sc_law_tier : FnScope ["pool", "most", "kinds", "turn"] ["pool", "most"] (defScope s_law_tier) := ⟨rfl, rfl, rfl, by decide +kernel, rfl, by decide +kernel, by decide +kernel⟩
theorem sc_law_small : FnScope ["pool", "most", "found", "number", "turn", "tier"] ["pool", "most"] (defScope s_law_small) := ⟨rfl, rfl, rfl, by decide +kernel, rfl, by decide +kernel, by decide +kernel⟩
theorem sc_law_flat : FnScope ["layers", "found", "tier", "run", "waits", "wait"] ["layers"] (defScope s_law_flat) := ⟨rfl, rfl, rfl, by decide +kernel, rfl, by decide +kernel, by decide +kernel⟩
theorem sc_law_near : FnScope ["wait"] ["wait"] (defScope s_law_near) := ⟨rfl, rfl, rfl, by decide +kernel, rfl, by decide +kernel, by decide +kernel⟩
theorem sc_law_rewritten : FnScope ["pool", "layers", "found", "way", "spot", "tier", "part"] ["pool", "layers"] (defScope s_law_rewritten) := ⟨rfl, rfl, rfl, by decide +kernel, rfl, by decide +kernel, by decide +kernel⟩
theorem sc_law_right : FnScope ["pool", "layers", "other", "given", "one", "two", "waits", "others", "tier", "steps", "due", "extra"] ["pool"] (defScope s_law_right) := ⟨rfl, rfl, rfl, by decide +kernel, rfl, by decide +kernel, by decide +kernel⟩
theorem sc_law : FnScope ["script", "at", "pool", "turn"] ["script"] (defScope s_law) := ⟨rfl, rfl, rfl, by decide +kernel, rfl, by decide +kernel, by decide +kernel⟩
theorem sc_Runner_init : FnScope ["self", "nesting"] ["self", "nesting"] (defScope s_Runner_init) := ⟨rfl, rfl, rfl, by decide +kernel, rfl, by decide +kernel, by decide +kernel⟩
theorem sc_Runner_eq : FnScope ["self", "other"] ["self", "other"] (defScope s_Runner_eq) := ⟨rfl, rfl, rfl, by decide +kernel, rfl, by decide +kernel, by decide +kernel⟩
theorem sc_Runner_left : FnScope ["self"] ["self"] (defScope s_Runner_left) := ⟨rfl, rfl, rfl, by decide +kernel, rfl, by decide +kernel, by decide +kernel⟩
theorem sc_Runner_fail : FnScope ["self", "times", "left"] ["self", "times"] (defScope s_Runner_fail) := ⟨rfl, rfl, rfl, by decide +kernel, rfl, by decide +kernel, by decide +kernel⟩
theorem sc_Runner_wrap : FnScope ["self", "layer"] ["self", "layer"] (defScope s_Runner_wrap) := ⟨rfl, rfl, rfl, by decide +kernel, rfl, by decide +kernel, by decide +kernel⟩
/-! ## what the top has written -/
structure Txt (P : Program) (K : PySem.W.Frag) (mg : Str → Option Value) where
  C_InvalidLayer : Addr
  I_InvalidLayer : Addr
  V_InvalidLayer : PySem.VeX.VeTxt P K mg "InvalidLayer" C_InvalidLayer I_InvalidLayer
  C_InvalidNumber : Addr
  I_InvalidNumber : Addr
  V_InvalidNumber : PySem.VeX.VeTxt P K mg "InvalidNumber" C_InvalidNumber I_InvalidNumber
  C_NoMoreAttempts : Addr
  I_NoMoreAttempts : Addr
  V_NoMoreAttempts : PySem.VeX.VeTxt P K mg "NoMoreAttempts" C_NoMoreAttempts I_NoMoreAttempts
  f_first_negative : Addr
  d_first_negative : FuncData
  F_first_negative : Fun K "first_negative" "first_negative" s_first_negative f_first_negative d_first_negative
  g_first_negative : mg "first_negative" = some (.ref f_first_negative)
  b_first_negative : Binds K d_first_negative ["waits"] []
  f_is_valid_layer : Addr
  d_is_valid_layer : FuncData
  F_is_valid_layer : Fun K "is_valid_layer" "is_valid_layer" s_is_valid_layer f_is_valid_layer d_is_valid_layer
  g_is_valid_layer : mg "is_valid_layer" = some (.ref f_is_valid_layer)
  b_is_valid_layer : Binds K d_is_valid_layer ["layer"] []
  f_check_nesting : Addr
  d_check_nesting : FuncData
  F_check_nesting : Fun K "check_nesting" "check_nesting" s_check_nesting f_check_nesting d_check_nesting
  g_check_nesting : mg "check_nesting" = some (.ref f_check_nesting)
  b_check_nesting : Binds K d_check_nesting ["nesting"] []
  f_repeats : Addr
  d_repeats : FuncData
  F_repeats : Fun K "repeats" "repeats" s_repeats f_repeats d_repeats
  g_repeats : mg "repeats" = some (.ref f_repeats)
  b_repeats : Binds K d_repeats ["waits", "number"] []
  f_is_inner_number : Addr
  d_is_inner_number : FuncData
  F_is_inner_number : Fun K "is_inner_number" "is_inner_number" s_is_inner_number f_is_inner_number d_is_inner_number
  g_is_inner_number : mg "is_inner_number" = some (.ref f_is_inner_number)
  b_is_inner_number : Binds K d_is_inner_number ["waits", "number"] []
  f_smallest_inner_number : Addr
  d_smallest_inner_number : FuncData
  F_smallest_inner_number : Fun K "smallest_inner_number" "smallest_inner_number" s_smallest_inner_number f_smallest_inner_number d_smallest_inner_number
  g_smallest_inner_number : mg "smallest_inner_number" = some (.ref f_smallest_inner_number)
  b_smallest_inner_number : Binds K d_smallest_inner_number ["waits"] []
  f_list_parts : Addr
  d_list_parts : FuncData
  F_list_parts : Fun K "list_parts" "list_parts" s_list_parts f_list_parts d_list_parts
  g_list_parts : mg "list_parts" = some (.ref f_list_parts)
  b_list_parts : Binds K d_list_parts ["waits"] []
  f_layer_parts : Addr
  d_layer_parts : FuncData
  F_layer_parts : Fun K "layer_parts" "layer_parts" s_layer_parts f_layer_parts d_layer_parts
  g_layer_parts : mg "layer_parts" = some (.ref f_layer_parts)
  b_layer_parts : Binds K d_layer_parts ["layer"] []
  f_same_constant : Addr
  d_same_constant : FuncData
  F_same_constant : Fun K "same_constant" "same_constant" s_same_constant f_same_constant d_same_constant
  g_same_constant : mg "same_constant" = some (.ref f_same_constant)
  b_same_constant : Binds K d_same_constant ["first", "second"] []
  f_merged : Addr
  d_merged : FuncData
  F_merged : Fun K "merged" "merged" s_merged f_merged d_merged
  g_merged : mg "merged" = some (.ref f_merged)
  b_merged : Binds K d_merged ["layers"] []
  f_normal_form : Addr
  d_normal_form : FuncData
  F_normal_form : Fun K "normal_form" "normal_form" s_normal_form f_normal_form d_normal_form
  g_normal_form : mg "normal_form" = some (.ref f_normal_form)
  b_normal_form : Binds K d_normal_form ["nesting"] []
  f_layer_attempts : Addr
  d_layer_attempts : FuncData
  F_layer_attempts : Fun K "layer_attempts" "layer_attempts" s_layer_attempts f_layer_attempts d_layer_attempts
  g_layer_attempts : mg "layer_attempts" = some (.ref f_layer_attempts)
  b_layer_attempts : Binds K d_layer_attempts ["layer"] []
  f_attempts : Addr
  d_attempts : FuncData
  F_attempts : Fun K "attempts" "attempts" s_attempts f_attempts d_attempts
  g_attempts : mg "attempts" = some (.ref f_attempts)
  b_attempts : Binds K d_attempts ["nesting"] []
  f_law_pool : Addr
  d_law_pool : FuncData
  F_law_pool : Fun K "_law_pool" "_law_pool" s_law_pool f_law_pool d_law_pool
  g_law_pool : mg "_law_pool" = some (.ref f_law_pool)
  b_law_pool : Binds K d_law_pool ["script", "at"] []
  f_law_draw : Addr
  d_law_draw : FuncData
  F_law_draw : Fun K "_law_draw" "_law_draw" s_law_draw f_law_draw d_law_draw
  g_law_draw : mg "_law_draw" = some (.ref f_law_draw)
  b_law_draw : Binds K d_law_draw ["pool", "many"] []
  f_law_size : Addr
  d_law_size : FuncData
  F_law_size : Fun K "_law_size" "_law_size" s_law_size f_law_size d_law_size
  g_law_size : mg "_law_size" = some (.ref f_law_size)
  b_law_size : Binds K d_law_size ["tier"] []
  f_law_wait : Addr
  d_law_wait : FuncData
  F_law_wait : Fun K "_law_wait" "_law_wait" s_law_wait f_law_wait d_law_wait
  g_law_wait : mg "_law_wait" = some (.ref f_law_wait)
  b_law_wait : Binds K d_law_wait ["pool"] []
  f_law_tier : Addr
  d_law_tier : FuncData
  F_law_tier : Fun K "_law_tier" "_law_tier" s_law_tier f_law_tier d_law_tier
  g_law_tier : mg "_law_tier" = some (.ref f_law_tier)
  b_law_tier : Binds K d_law_tier ["pool", "most"] []
  f_law_small : Addr
  d_law_small : FuncData
  F_law_small : Fun K "_law_small" "_law_small" s_law_small f_law_small d_law_small
  g_law_small : mg "_law_small" = some (.ref f_law_small)
  b_law_small : Binds K d_law_small ["pool", "most"] []
  f_law_flat : Addr
  d_law_flat : FuncData
  F_law_flat : Fun K "_law_flat" "_law_flat" s_law_flat f_law_flat d_law_flat
  g_law_flat : mg "_law_flat" = some (.ref f_law_flat)
  b_law_flat : Binds K d_law_flat ["layers"] []
  f_law_near : Addr
  d_law_near : FuncData
  F_law_near : Fun K "_law_near" "_law_near" s_law_near f_law_near d_law_near
  g_law_near : mg "_law_near" = some (.ref f_law_near)
  b_law_near : Binds K d_law_near ["wait"] []
  f_law_rewritten : Addr
  d_law_rewritten : FuncData
  F_law_rewritten : Fun K "_law_rewritten" "_law_rewritten" s_law_rewritten f_law_rewritten d_law_rewritten
  g_law_rewritten : mg "_law_rewritten" = some (.ref f_law_rewritten)
  b_law_rewritten : Binds K d_law_rewritten ["pool", "layers"] []
  f_law_right : Addr
  d_law_right : FuncData
  F_law_right : Fun K "_law_right" "_law_right" s_law_right f_law_right d_law_right
  g_law_right : mg "_law_right" = some (.ref f_law_right)
  b_law_right : Binds K d_law_right ["pool"] []
  f_law : Addr
  d_law : FuncData
  F_law : Fun K "law" "law" s_law f_law d_law
  g_law : mg "law" = some (.ref f_law)
  b_law : Binds K d_law ["script"] []
  f_Runner_init : Addr
  d_Runner_init : FuncData
  F_Runner_init : Fun K "__init__" "Runner.__init__" s_Runner_init f_Runner_init d_Runner_init
  b_Runner_init : Binds K d_Runner_init ["self", "nesting"] []
  f_Runner_eq : Addr
  d_Runner_eq : FuncData
  F_Runner_eq : Fun K "__eq__" "Runner.__eq__" s_Runner_eq f_Runner_eq d_Runner_eq
  b_Runner_eq : Binds K d_Runner_eq ["self", "other"] []
  f_Runner_left : Addr
  d_Runner_left : FuncData
  F_Runner_left : Fun K "left" "Runner.left" s_Runner_left f_Runner_left d_Runner_left
  b_Runner_left : Binds K d_Runner_left ["self"] []
  f_Runner_fail : Addr
  d_Runner_fail : FuncData
  F_Runner_fail : FunD K "fail" "Runner.fail" (defArgs s_Runner_fail) (defBody s_Runner_fail) (defScope s_Runner_fail) [.int 1] [] f_Runner_fail d_Runner_fail
  b_Runner_fail : Binds K d_Runner_fail ["self", "times"] []
  dl_Runner_fail : List Value
  vd_Runner_fail : Vals [V.int 1] dl_Runner_fail
  bd_Runner_fail : Binds K d_Runner_fail ["self", "times"] dl_Runner_fail
  f_Runner_wrap : Addr
  d_Runner_wrap : FuncData
  F_Runner_wrap : Fun K "wrap" "Runner.wrap" s_Runner_wrap f_Runner_wrap d_Runner_wrap
  b_Runner_wrap : Binds K d_Runner_wrap ["self", "layer"] []
  kn_Runner_init : KBn K d_Runner_init ["self", "nesting"] 1 ["nesting"] (fun us ws => us ++ ws) (fun vs zs => vs ++ zs)
  kn_Runner_fail : KBn K d_Runner_fail ["self", "times"] 1 ["times"] (fun us ws => us ++ ws) (fun vs zs => vs ++ zs)
  kn_Runner_wrap : KBn K d_Runner_wrap ["self", "layer"] 1 ["layer"] (fun us ws => us ++ ws) (fun vs zs => vs ++ zs)
  C_Runner : Addr
  g_Runner : mg "Runner" = some (.ref C_Runner)
  cl_Runner : Cls K C_Runner
  n_attempt : NoAttr K C_Runner "_attempt"
  n_nesting : NoAttr K C_Runner "_nesting"
  mk_Runner : Mk K C_Runner f_Runner_init
  me_Runner_eq : Meth K C_Runner "__eq__" f_Runner_eq
  me_Runner_left : Meth K C_Runner "left" f_Runner_left
  me_Runner_fail : Meth K C_Runner "fail" f_Runner_fail
  me_Runner_wrap : Meth K C_Runner "wrap" f_Runner_wrap
  is_Runner : C8.InsC K C_Runner
  eq_Runner : EqC K C_Runner f_Runner_eq
  nk_Runner : NoKin K C_Runner
  kt_Runner : ∀ t : String, t = "NoneType" ∨ t = "int" ∨ t = "str" ∨ t = "list" → PySem.W.kitOne K (.type t) (.ref C_Runner) = some false
  m_abs : mg "abs" = none
  m_enumerate : mg "enumerate" = none
  m_isinstance : mg "isinstance" = none
  m_len : mg "len" = none
  m_list : mg "list" = none
  m_max : mg "max" = none
  m_min : mg "min" = none
  m_range : mg "range" = none
  m_tuple : mg "tuple" = none
end Rn
namespace Rn
open PySem PySem.Spec PyProof.Rows L2
section
variable {P : Program} {w : World} {K : PySem.W.Frag} {mg : Str → Option Value} {base : Heap}
/-- where the first negative one stands -/
def negAt (ns : List Int) : V := match ns.findIdx? (fun x => decide (x < 0)) with
  | none => .non
  | some i => .int (i : Nat)
theorem negAt_none {ns : List Int} (h : ∀ x ∈ ns, 0 ≤ x) : negAt ns = .non := by
  unfold negAt
  rw [List.findIdx?_eq_none_iff.mpr fun x hx => decide_eq_false (by have := h x hx; omega)]
def sp_first_negative (K : PySem.W.Frag) : Sp := fun vs H Q _ => ∃ (a : Addr) (ns : List Int), vs = [.ref a] ∧ SqL K H a (ns.map V.int) ∧ ∀ H', Same H H' → Q (negAt ns) H'
theorem ok_first_negative (T : Txt P K mg) : FnOk P w K mg base CX0 1 T.f_first_negative T.d_first_negative ["waits"] (sp_first_negative K) := by
  refine T.F_first_negative.ok sc_first_negative (fun vs H Q E h => ?_) (fun cdv A outer s H vs Q E hr h => ?_)
  · obtain ⟨a, ns, rfl, _⟩ := h
    rfl
  obtain ⟨a, ns, rfl, hS, q⟩ := h
  refine ⟨_, (pss_cons (ps_for PassesOwn.never rfl (pi_enum (by rfl) T.m_enumerate (pa_cons (pv 0) pa_nil)) (pg_tup rfl (pgs_cons (pg_name (i := 1) sc_first_negative.nd rfl (Or.inl rfl)) (pgs_cons (pg_name (i := 2) sc_first_negative.nd rfl (Or.inl rfl)) pgs_nil)))
      (pss_one (ps_if (pt_cmpR op_lt (pv 2) pe_int (nomark _))
      (pss_one (ps_ret (pv 1)))
      pss_nil)))
      (pss_one (ps_ret pe_non))), ?_⟩
  -- the walk
  refine ⟨.ref a, rfl, a, ns.map V.int, rfl, hS, for_enum (fun i σ H' => (∃ y1 y2, σ = [some (.ref a), y1, y2]) ∧ Same H H' ∧ ∀ j : Nat, j < i → ∀ x, ns[j]? = some x → 0 ≤ x)
    ⟨⟨none, none, rfl⟩, Same.refl H, fun j hj => absurd hj (Nat.not_lt_zero j)⟩ (fun i σ H' _ h => h.2.1.seq hS) (fun i x σ H' t hx h nt => ?_) (fun σ H' h => ?_)⟩
  · obtain ⟨⟨y1, y2, rfl⟩, sm, hn⟩ := h
    obtain ⟨n, hx', rfl⟩ : ∃ n, ns[i]? = some n ∧ x = .int n := by
      rw [List.getElem?_map] at hx
      cases e : ns[i]? with
      | none => rw [e] at hx; cases hx
      | some n => rw [e] at hx; exact ⟨n, rfl, (Option.some.inj hx).symm⟩
    refine ⟨t, _, rfl, sqt upd_same, rfl, _, _, rfl, _, _, rfl, rfl, ?_⟩
    -- if wait < 0
    refine ⟨_, rfl, _, _, rfl, rfl, _, rfl, ite2 (fun e => ?_) (fun e => ?_)⟩
    · have e' : n < 0 := of_decide_eq_true e
      refine ⟨_, rfl, ?_⟩
      have hf : negAt ns = .int (i : Nat) := by
        unfold negAt
        have hi : i < ns.length := (List.getElem?_eq_some_iff.mp hx').1
        have : ns.findIdx? (fun x => decide (x < 0)) = some i := by
          rw [List.findIdx?_eq_some_iff_getElem]
          refine ⟨hi, ?_, fun j hj => ?_⟩
          · rw [(List.getElem?_eq_some_iff.mp hx').2]
            exact decide_eq_true e'
          · have hjl : j < ns.length := by omega
            have := hn j hj _ (List.getElem?_eq_getElem hjl)
            simp only [decide_eq_true_eq]
            omega
        rw [this]
      have := q (upd H' t (.tup [.int (i : Nat), .int n])) (sm.trans (same_new nt))
      rw [hf] at this
      exact this
    · refine ⟨⟨_, _, rfl⟩, sm.trans (same_new nt), fun j hj x hz => ?_⟩
      by_cases ej : j = i
      · subst ej
        rw [hx'] at hz
        cases hz
        have := of_decide_eq_false (Bool.eq_false_iff.mpr e)
        omega
      · exact hn j (by omega) x hz
  · obtain ⟨⟨y1, y2, rfl⟩, sm, hn⟩ := h
    have e : negAt ns = .non := negAt_none fun x hx => by
      obtain ⟨j, hj, e⟩ := List.getElem_of_mem hx
      exact hn j (by simpa using hj) x (by rw [← e]; exact List.getElem?_eq_getElem hj)
    have := q H' sm
    rw [e] at this
    exact this

end
end Rn
namespace Rn
open PySem PySem.Spec PyProof.Rows L2
section
variable {P : Program} {w : World} {K : PySem.W.Frag} {mg : Str → Option Value} {base : Heap}
def sp_is_valid_layer (K : PySem.W.Frag) : Sp := fun vs H Q _ => ∃ (v : V) (L : Lay), vs = [v] ∧ LayAt H v L ∧ ∀ H', Same H H' → Q (.bl L.ok) H'
theorem negAt_iff (ns : List Int) : decide (negAt ns = .non) = ns.all fun x => decide (0 ≤ x) := by
  by_cases h : ∀ x ∈ ns, 0 ≤ x
  · rw [negAt_none h, decide_eq_true rfl]
    symm
    rw [List.all_eq_true]
    exact fun x hx => decide_eq_true (h x hx)
  · have e : ns.all (fun x => decide (0 ≤ x)) = false := by
      rw [Bool.eq_false_iff]
      intro z
      rw [List.all_eq_true] at z
      exact h fun x hx => of_decide_eq_true (z x hx)
    rw [e]
    unfold negAt
    cases q : ns.findIdx? (fun x => decide (x < 0)) with
    | none =>
      rw [List.findIdx?_eq_none_iff] at q
      exact absurd (fun x hx => by have := of_decide_eq_false (q x hx); omega) h
    | some i => exact decide_eq_false fun z => nomatch z
theorem ok_is_valid_layer (T : Txt P K mg) : FnOk P w K mg base CX0 2 T.f_is_valid_layer T.d_is_valid_layer ["layer"] (sp_is_valid_layer K) := by
  have G_first_negative := ok_first_negative (P := P) (w := w) (base := base) T
  refine T.F_is_valid_layer.ok sc_is_valid_layer (fun vs H Q E h => ?_) (fun cdv A outer s H vs Q E hr h => ?_)
  · obtain ⟨v, L, rfl, _⟩ := h
    rfl
  obtain ⟨v, L, rfl, hL, q⟩ := h
  refine ⟨_, (pss_cons (ps_if (pt_val (pe_callB call_isi (by rfl) T.m_isinstance (by decide +kernel) (pa_cons (pv 0) (pa_cons (pe_bltn (v := .ty "tuple") (by rfl) T.m_tuple (by decide +kernel) rfl) pa_nil))))
      (pss_cons (ps_asg (pv 0) (pg_tup rfl (pgs_cons (pg_name (i := 1) sc_is_valid_layer.nd rfl (Or.inl rfl)) (pgs_cons (pg_name (i := 2) sc_is_valid_layer.nd rfl (Or.inl rfl)) pgs_nil))))
      (pss_one (ps_ret (pe_and (pe_cmpR op_ge (pv 1) pe_int (nomark _)) (pe_one (pe_cmpR op_ge (pv 2) pe_int (nomark _)))))))
      pss_nil)
      (pss_one (ps_ret (pe_cmpR op_isN (pe_call G_first_negative hr (by rfl) T.g_first_negative T.F_first_negative.kp T.b_first_negative .nil pass0 (pa_cons (pv 0) pa_nil)) pe_non (nomark _))))), ?_⟩
  cases L with
  | con wt n =>
    obtain ⟨p, rfl, hp⟩ := hL
    refine ⟨_, rfl, _, _, _, _, true, rfl, .ty "tuple", .base (.tup hp), kit_ty (by decide +kernel), true, rfl, iteT ?_⟩
    refine ⟨_, rfl, p, _, rfl, sqt hp, rfl, _, _, rfl, _, _, rfl, rfl, ?_⟩
    refine ⟨_, rfl, _, _, rfl, rfl, _, rfl, ite2 (fun e => ?_) (fun e => ?_)⟩
    · refine ⟨_, rfl, _, _, rfl, rfl, ?_⟩
      have := q H (Same.refl H)
      rw [Lay.ok_con, e, Bool.true_and] at this
      exact this
    · have := q H (Same.refl H)
      rw [Lay.ok_con, Bool.eq_false_iff.mpr e, Bool.false_and] at this
      exact this
  | pol ns =>
    obtain ⟨p, rfl, hp⟩ := hL
    refine ⟨_, rfl, _, _, _, _, false, rfl, .ty "tuple", .base (.lst hp), kit_ty (by decide +kernel), false, rfl, iteF ?_⟩
    refine ⟨_, rfl, p, ns, rfl, sql hp, fun H' sm => ⟨rfl, ?_⟩⟩
    have := q H' sm
    rw [Lay.ok_pol, ← negAt_iff] at this
    exact this

end
end Rn
namespace Rn
open PySem PySem.Spec PyProof.Rows L2
section
variable {P : Program} {w : World} {K : PySem.W.Frag} {mg : Str → Option Value} {base : Heap}
def sp_check_nesting (K : PySem.W.Frag) (C : Addr) : Sp := fun vs H Q E => ∃ (a : Addr) (Ls : List Lay), vs = [.ref a] ∧ NestAt H a Ls ∧ (badAt Ls = none → ∀ H', Same H H' → Q .non H') ∧ ∀ i : Nat, badAt Ls = some i → Err C (.int i) H E
theorem ok_check_nesting (T : Txt P K mg) : FnOk P w K mg base (L2.CX P w) 3 T.f_check_nesting T.d_check_nesting ["nesting"] (sp_check_nesting K T.C_InvalidLayer) := by
  have G_is_valid_layer := ok_is_valid_layer (P := P) (w := w) (base := base) T
  refine T.F_check_nesting.okX sc_check_nesting (fun vs H Q E h => ?_) (fun cdv A outer s H vs Q E hr h => ?_)
  · obtain ⟨a, Ls, rfl, _⟩ := h
    rfl
  obtain ⟨a, Ls, rfl, hN, q, qe⟩ := h
  refine ⟨_, (pss_one (ps_for (passes_of rfl) rfl (pi_enum (by rfl) T.m_enumerate (pa_cons (pv 0) pa_nil)) (pg_tup rfl (pgs_cons (pg_name (i := 1) sc_check_nesting.nd rfl (Or.inl rfl)) (pgs_cons (pg_name (i := 2) sc_check_nesting.nd rfl (Or.inl rfl)) pgs_nil)))
      (pss_one (ps_if (pt_not (pt_val (pe_call G_is_valid_layer hr (by rfl) T.g_is_valid_layer T.F_is_valid_layer.kp T.b_is_valid_layer .nil pass0 (pa_cons (pv 2) pa_nil))))
      (pss_one (ps_raiseVe rfl T.V_InvalidLayer hr (takes_of rfl rfl rfl rfl) (pa_cons (pv 1) pa_nil)))
      pss_nil)))), ?_⟩
  obtain ⟨vs, hv, hl, hat⟩ := id hN
  refine ⟨.ref a, rfl, a, vs, rfl, sql hv, for_enum (fun i σ H' => (∃ y1 y2, σ = [some (.ref a), y1, y2]) ∧ Same H H' ∧ ∀ j : Nat, j < i → ∀ L, Ls[j]? = some L → L.ok = true) ⟨⟨none, none, rfl⟩, Same.refl H, fun j hj => absurd hj (Nat.not_lt_zero j)⟩ (fun i σ H' _ h => h.2.1.seq (sql hv)) (fun i x σ H' t hx h nt => ?_) (fun σ H' h => q (badAt_all fun L hL => ?_) H' h.2.1)⟩
  · obtain ⟨⟨y1, y2, rfl⟩, sm, hn⟩ := h
    have hi : i < Ls.length := by
      rw [← hl]
      exact (List.getElem?_eq_some_iff.mp hx).1
    have sm1 := sm.trans (same_new (o := .tup [.int (i : Nat), x]) nt)
    refine ⟨t, _, rfl, sqt upd_same, rfl, _, _, rfl, _, _, rfl, rfl, ?_⟩
    refine ⟨_, rfl, x, Ls[i], rfl, (hat i x _ hx (List.getElem?_eq_getElem hi)).same sm1, fun H2 s2 => ?_⟩
    cases e : Ls[i].ok with
    | true =>
      refine ⟨true, rfl, iteF ⟨⟨_, _, rfl⟩, sm1.trans s2, fun j hj L hL => ?_⟩⟩
      by_cases ej : j = i
      · subst ej
        rw [List.getElem?_eq_getElem hi] at hL
        cases hL
        exact e
      · exact hn j (by omega) L hL
    | false => exact ⟨false, rfl, iteT ⟨_, rfl, _, rfl, fun d hd => qe i (badAt_first hi e hn) _ d ((sm1.trans s2).trans (same_new hd)) upd_same⟩⟩
  · obtain ⟨j, hj, e⟩ := List.getElem_of_mem hL
    exact h.2.2 j (by rw [hl]; exact hj) L (by rw [← e]; exact List.getElem?_eq_getElem hj)
/-- .. where nothing is invalid -/
def sp_check_nesting0 (K : PySem.W.Frag) : Sp := fun vs H Q _ => ∃ (a : Addr) (Ls : List Lay), vs = [.ref a] ∧ NestAt H a Ls ∧ (∀ L ∈ Ls, L.ok = true) ∧ ∀ H', Same H H' → Q .non H'
theorem ok_check_nesting0 (T : Txt P K mg) : FnOk P w K mg base CX0 3 T.f_check_nesting T.d_check_nesting ["nesting"] (sp_check_nesting0 K) :=
  calm0 (ok_check_nesting T) fun vs H Q E h => by
    obtain ⟨a, Ls, rfl, hN, hok, q⟩ := h
    exact ⟨a, Ls, rfl, hN, fun _ => q, fun i hi => by rw [badAt_all hok] at hi; cases hi⟩

end
end Rn
namespace Rn
open PySem PySem.Spec PyProof.Rows L2
section
variable {P : Program} {w : World} {K : PySem.W.Frag} {mg : Str → Option Value} {base : Heap}
def sp_repeats (K : PySem.W.Frag) : Sp := fun vs H Q _ => ∃ (a : Addr) (ws : List Int) (n : Nat), vs = [.ref a, .int (n : Int)] ∧ SqL K H a (ws.map V.int) ∧ 1 ≤ n ∧ n ∣ ws.length + 1 ∧ ws.length ≤ 20000 ∧ ∀ H', Same H H' → Q (.bl (repB ws n)) H'
theorem ok_repeats (T : Txt P K mg) : FnOk P w K mg base CX0 1 T.f_repeats T.d_repeats ["waits", "number"] (sp_repeats K) := by
  refine T.F_repeats.ok sc_repeats (fun vs H Q E h => ?_) (fun cdv A outer s H vs Q E hr h => ?_)
  · obtain ⟨a, ws, n, rfl, _⟩ := h
    rfl
  obtain ⟨a, ws, n, rfl, hS, hn, hd, hl, q⟩ := h
  obtain ⟨k, hk⟩ := hd
  have hk1 : 1 ≤ k := by
    cases k with
    | zero => rw [Nat.mul_zero] at hk; omega
    | succ k => omega
  have hkd : (ws.length + 1) / n = k := by rw [hk, Nat.mul_div_cancel_left _ (by omega)]
  refine ⟨_, (pss_cons (ps_set (i := 2) sc_repeats.nd rfl (Or.inl rfl) (pe_slice sl_list (pv 0) po_none (po_some (pe_op op_sub (pv 1) pe_int))))
      (pss_cons (ps_for PassesOwn.never rfl (pi_range3 rfl T.m_range (pa_cons (pv 1) (pa_cons (pe_op op_add (pe_callB call_len_seq (by rfl) T.m_len PySem.boot_len (pa_cons (pv 0) pa_nil)) pe_int) (pa_cons (pv 1) pa_nil)))) (pg_name (i := 3) sc_repeats.nd rfl (Or.inl rfl))
      (pss_one (ps_if (pt_cmpR (op_neD hr.units) (pe_slice sl_list (pv 0) (po_some (pv 3)) (po_some (pe_op op_sub (pe_op op_add (pv 3) (pv 1)) pe_int))) (pv 2) (nomark _))
      (pss_one (ps_ret pe_bl))
      pss_nil)))
      (pss_one (ps_ret pe_bl)))), ?_⟩
  refine ⟨_, rfl, _, rfl, _, _, rfl, rfl, _, rfl, a, _, rfl, hS, fun b hb => ?_⟩
  rw [show (n : Int) - 1 = ((n - 1 : Nat) : Int) by omega, cut_n, show (ws.map V.int).take (n - 1) = (blk ws n 0).map V.int by rw [← blk_map, Nat.zero_mul, List.drop_zero]]
  have sb := same_new (o := .lst ((blk ws n 0).map V.int)) hb
  have eb := upd_same (H := H) (a := b) (o := .lst ((blk ws n 0).map V.int))
  generalize upd H b (.lst ((blk ws n 0).map V.int)) = H0 at *
  refine ⟨_, rfl, _, rfl, a, _, rfl, .inl (sb.seq hS), _, _, rfl, rfl, _, rfl, _, _, _, _, rfl, ?_, for_rangeC (n := k - 1) (fun i σ H' => (∃ y, σ = [some (.ref a), some (.int (n : Int)), some (.ref b), y]) ∧ Same H0 H' ∧ ∀ c, c ≤ i → blk ws n c = blk ws n 0)
    ⟨⟨none, rfl⟩, Same.refl _, fun c hc => by rw [Nat.le_zero.mp hc]⟩ (fun i σ H' hi h => ?_) (fun σ H' h => ?_)⟩
  · rw [show (((ws.map V.int).length : Int) + 1) = ((n * k : Nat) : Int) by rw [List.length_map]; omega]
    exact RgC.blocks hn hk1 (by omega)
  · obtain ⟨⟨y, rfl⟩, sm, hc⟩ := h
    refine ⟨_, rfl, _, rfl, _, rfl, _, rfl, _, rfl, _, _, rfl, rfl, _, _, rfl, rfl, _, rfl, a, _, rfl, (sb.trans sm).seq hS, fun p hp => ?_⟩
    have em : (n : Int) + (i : Int) * (n : Int) = (((i + 1) * n : Nat) : Int) := by
      rw [Nat.succ_mul]
      omega
    have ec : cutV (ws.map V.int) (some ((n : Int) + (i : Int) * (n : Int))) (some ((n : Int) + (i : Int) * (n : Int) + (n : Int) - 1)) = (blk ws n (i + 1)).map V.int := by
      rw [em, show (((i + 1) * n : Nat) : Int) + (n : Int) - 1 = (((i + 1) * n + (n - 1) : Nat) : Int) by omega, cut_mid, show (i + 1) * n + (n - 1) - (i + 1) * n = n - 1 by omega, blk_map]
    rw [ec]
    have sp := same_new (o := .lst ((blk ws n (i + 1)).map V.int)) hp
    have ep := upd_same (H := H') (a := p) (o := .lst ((blk ws n (i + 1)).map V.int))
    generalize upd H' p (.lst ((blk ws n (i + 1)).map V.int)) = H1 at *
    refine ⟨_, rfl, dInts (blk ws n (i + 1)), dInts (blk ws n 0), dp_ints (sql ep), dp_ints (sql ((sm.trans sp) _ _ eb)), shaped_ints _, shaped_ints _, _, rfl, ?_⟩
    rw [eqv_ints]
    refine ite2 (fun e => ?_) (fun e => ?_)
    · have e' : blk ws n (i + 1) ≠ blk ws n 0 := by simpa using e
      have := q H1 ((sb.trans sm).trans sp)
      rw [repB_not (c := i + 1) (by omega) e'] at this
      exact this
    · have e' : blk ws n (i + 1) = blk ws n 0 := by simpa using e
      refine ⟨⟨_, rfl⟩, sm.trans sp, fun c hc' => ?_⟩
      by_cases z : c = i + 1
      · rw [z]; exact e'
      · exact hc c (by omega)
  · obtain ⟨_, sm, hc⟩ := h
    have := q H' (sb.trans sm)
    rw [repB_of fun c hc' => hc c (by omega)] at this
    exact this

end
end Rn
namespace Rn
open PySem PySem.Spec PyProof.Rows L2
section
variable {P : Program} {w : World} {K : PySem.W.Frag} {mg : Str → Option Value} {base : Heap}
def sp_is_inner_number (K : PySem.W.Frag) : Sp := fun vs H Q _ => ∃ (a : Addr) (ws : List Int) (n : Int), vs = [.ref a, .int n] ∧ SqL K H a (ws.map V.int) ∧ ws.length ≤ 20000 ∧ ∀ H', Same H H' → Q (.bl (innB ws n)) H'
theorem ok_is_inner_number (T : Txt P K mg) : FnOk P w K mg base CX0 2 T.f_is_inner_number T.d_is_inner_number ["waits", "number"] (sp_is_inner_number K) := by
  have G_repeats := ok_repeats (P := P) (w := w) (base := base) T
  refine T.F_is_inner_number.ok sc_is_inner_number (fun vs H Q E h => ?_) (fun cdv A outer s H vs Q E hr h => ?_)
  · obtain ⟨a, ws, n, rfl, _⟩ := h
    rfl
  obtain ⟨a, ws, n, rfl, hS, hl, q⟩ := h
  refine ⟨_, (pss_cons (ps_if (PW.pt (pw_or (pt_cmpR op_lt (pv 1) pe_int (nomark _)) (pw_or1 (pt_cmpR op_ne (pe_op op_mod (pe_op op_add (pe_callB call_len_seq (by rfl) T.m_len PySem.boot_len (pa_cons (pv 0) pa_nil)) pe_int) (pv 1)) pe_int (nomark _)))))
      (pss_one (ps_ret pe_bl))
      pss_nil)
      (pss_one (ps_ret (pe_call G_repeats hr (by rfl) T.g_repeats T.F_repeats.kp T.b_repeats .nil pass0 (pa_cons (pv 0) (pa_cons (pv 1) pa_nil)))))), ?_⟩
  refine ⟨_, rfl, _, _, rfl, rfl, _, rfl, ite2 (fun e => ?_) (fun e => ?_)⟩
  · have e' : n < 1 := of_decide_eq_true e
    have := q H (Same.refl _)
    unfold innB at this
    rw [decide_eq_false (show ¬ (1 : Int) ≤ n by omega)] at this
    exact iteT this
  · have e' : 1 ≤ n := by
      have := of_decide_eq_false (Bool.eq_false_iff.mpr e)
      omega
    refine ⟨_, rfl, a, _, rfl, .inl hS, _, _, rfl, rfl, _, rfl, _, _, rfl, rfl, by omega, rfl, _, rfl, ite2 (fun d => ?_) (fun d => ?_)⟩
    · have d' : ¬ ((ws.length : Int) + 1) % n = 0 := by simpa [List.length_map] using d
      have := q H (Same.refl _)
      unfold innB at this
      rw [decide_eq_false d', Bool.and_false, Bool.false_and] at this
      exact this
    · have d' : ((ws.length : Int) + 1) % n = 0 := by simpa [List.length_map] using d
      obtain ⟨m, rfl⟩ : ∃ m : Nat, n = (m : Int) := ⟨n.toNat, by omega⟩
      refine ⟨_, rfl, _, rfl, a, ws, m, rfl, hS, by omega, ?_, hl, fun H1 s1 => ?_⟩
      · rw [← Int.natCast_dvd_natCast, Int.dvd_iff_emod_eq_zero]
        exact d'
      · have := q H1 s1
        unfold innB at this
        rw [decide_eq_true e', decide_eq_true d', Int.toNat_natCast] at this
        exact this

end
end Rn
namespace Rn
open PySem PySem.Spec PyProof.Rows L2
section
variable {P : Program} {w : World} {K : PySem.W.Frag} {mg : Str → Option Value} {base : Heap}
def sp_smallest_inner_number (K : PySem.W.Frag) : Sp := fun vs H Q _ => ∃ (a : Addr) (ws : List Int), vs = [.ref a] ∧ SqL K H a (ws.map V.int) ∧ ws.length ≤ 20000 ∧ ∀ H' m, Same H H' → Sm ws m → Q (.int (m : Nat)) H'
theorem ok_smallest_inner_number (T : Txt P K mg) : FnOk P w K mg base CX0 3 T.f_smallest_inner_number T.d_smallest_inner_number ["waits"] (sp_smallest_inner_number K) := by
  have G_is_inner_number := (ok_is_inner_number (P := P) (w := w) (base := base) T)
  refine T.F_smallest_inner_number.ok sc_smallest_inner_number (fun vs H Q E h => ?_) (fun cdv A outer s H vs Q E hr h => ?_)
  · obtain ⟨a, ws, rfl, _⟩ := h
    rfl
  obtain ⟨a, ws, rfl, hS, hl, q⟩ := h
  refine ⟨_, (pss_cons (ps_set (i := 1) sc_smallest_inner_number.nd rfl (Or.inl rfl) (pe_op op_add (pe_callB call_len_seq (by rfl) T.m_len PySem.boot_len (pa_cons (pv 0) pa_nil)) pe_int))
      (pss_cons (ps_for PassesOwn.never rfl (pi_range2 (by rfl) T.m_range (pa_cons pe_int (pa_cons (pe_op op_add (pe_op op_fdivW (pv 1) pe_int) pe_int) pa_nil))) (pg_name (i := 2) sc_smallest_inner_number.nd rfl (Or.inl rfl))
      (pss_one (ps_if (pt_val (pe_call G_is_inner_number hr (by rfl) T.g_is_inner_number T.F_is_inner_number.kp T.b_is_inner_number .nil pass0 (pa_cons (pv 0) (pa_cons (pv 2) pa_nil))))
      (pss_one (ps_ret (pv 2)))
      pss_nil)))
      (pss_one (ps_ret (pv 1))))), ?_⟩
  refine ⟨_, rfl, a, _, rfl, .inl hS, _, _, rfl, rfl, ?_⟩
  refine ⟨_, rfl, _, _, rfl, rfl, wide_div (b := 4) (by decide) (by decide) (by decide) (by decide), _, _, rfl, rfl, _, _, rfl, ⟨by decide, by decide, by rw [List.length_map]; omega, by rw [List.length_map]; omega⟩, ?_⟩
  rw [List.length_map]
  refine for_range (lo := 2) (n := ((((ws.length : Int) + 1) / 2 + 1 - 2).toNat)) (fun i σ H' => (∃ y2, σ = [some (.ref a), some (.int ((ws.length : Int) + 1)), y2]) ∧ Same H H' ∧ ∀ j : Nat, 2 ≤ j → j < 2 + i → innB ws (j : Int) = false)
    ⟨⟨none, rfl⟩, Same.refl _, fun j j1 j2 => absurd j1 (by omega)⟩ (fun i σ H2 hi h => ?_) (fun σ H2 h => ?_)
  · obtain ⟨⟨y2, rfl⟩, sm, hn⟩ := h
    have hi' : (2 + i) * 2 ≤ ws.length + 1 := by omega
    refine ⟨_, rfl, _, rfl, a, ws, 2 + (i : Int), rfl, sm.seq hS, hl, fun H3 s3 => ⟨_, rfl, ite2 (fun e => ?_) (fun e => ?_)⟩⟩
    · refine ⟨_, rfl, ?_⟩
      have := q H3 (2 + i) (sm.trans s3) ⟨.inr ⟨by omega, by omega, e⟩, hn⟩
      exact this
    · refine ⟨⟨_, rfl⟩, sm.trans s3, fun j j1 j2 => ?_⟩
      by_cases z : j = 2 + i
      · rw [z]
        simpa using e
      · exact hn j j1 (by omega)
  · obtain ⟨⟨y2, rfl⟩, sm, hn⟩ := h
    refine ⟨_, rfl, q H2 (ws.length + 1) sm ⟨.inl rfl, fun j j1 j2 => ?_⟩⟩
    by_cases c : j < 2 + ((((ws.length : Int) + 1) / 2 + 1 - 2).toNat)
    · exact hn j j1 c
    · refine inn_false fun hp => ?_
      obtain ⟨k, hk⟩ := hp.2.1
      have : k < 2 := by
        apply Nat.lt_of_not_le
        intro z
        have : j * 2 ≤ j * k := Nat.mul_le_mul_left _ z
        omega
      have h0 : k = 0 ∨ k = 1 := by omega
      rcases h0 with rfl | rfl
      · omega
      · omega

end
end Rn
namespace Rn
open PySem PySem.Spec PyProof.Rows L2
section
variable {P : Program} {w : World} {K : PySem.W.Frag} {mg : Str → Option Value} {base : Heap}
def sp_list_parts (K : PySem.W.Frag) : Sp := fun vs H Q _ => ∃ (a : Addr) (ws : List Int), vs = [.ref a] ∧ H a = some (.lst (ws.map V.int)) ∧ ws.length ≤ 20000 ∧
  ∀ H' r us Ms, Same H H' → H r = none → NestV H H' r us Ms → Ms.length ≤ ws.length → Parts ws Ms → Q (.ref r) H'
theorem ok_list_parts (T : Txt P K mg) : FnOk P w K mg base CX0 4 T.f_list_parts T.d_list_parts ["waits"] (sp_list_parts K) := by
  have G_smallest_inner_number := (ok_smallest_inner_number (P := P) (w := w) (base := base) T)
  refine T.F_list_parts.ok sc_list_parts (fun vs H Q E h => ?_) (fun cdv A outer s H vs Q E hr h => ?_)
  · obtain ⟨a, ws, rfl, _⟩ := h
    rfl
  obtain ⟨a, ws, rfl, ha, hl, q⟩ := h
  refine ⟨_, (pss_cons (ps_set (i := 1) sc_list_parts.nd rfl (Or.inl rfl) (pe_lst pa_nil))
      (pss_cons (ps_set (i := 2) sc_list_parts.nd rfl (Or.inl rfl) (pv 0))
      (pss_cons (ps_while PassesOwn.never (pt_truth (pv 2) (by intro _; rfl))
      (pss_cons (ps_set (i := 3) sc_list_parts.nd rfl (Or.inl rfl) (pe_call G_smallest_inner_number hr (by rfl) T.g_smallest_inner_number T.F_smallest_inner_number.kp T.b_smallest_inner_number .nil pass0 (pa_cons (pv 2) pa_nil)))
      (pss_cons (ps_set (i := 4) sc_list_parts.nd rfl (Or.inl rfl) (pe_slice sl_list (pv 2) po_none (po_some (pe_op op_sub (pv 3) pe_int))))
      (Evl.pss_cut (ps_if (pt_cmpR op_eq (pe_bm PySem.F.plainAttrs_list PySem.F.slot_list_count PySem.F.type_list_count mt_lcount (pv 4) (pa_cons (pe_ix ix_list (pv 4) pe_int (fun _ _ => rfl)) pa_nil)) (pe_callB call_len_seq (by rfl) T.m_len PySem.boot_len (pa_cons (pv 4) pa_nil)) (nomark _))
      (pss_one (ps_expr (pe_bm PySem.F.plainAttrs_list PySem.F.slot_list_append PySem.F.type_list_append mt_append (pv 1) (pa_cons (pe_tup (pa_cons (pe_ix ix_list (pv 4) pe_int (fun _ _ => rfl)) (pa_cons (pv 3) pa_nil))) pa_nil))))
      (pss_one (ps_expr (pe_bm PySem.F.plainAttrs_list PySem.F.slot_list_append PySem.F.type_list_append mt_append (pv 1) (pa_cons (pv 4) pa_nil)))))
      (pss_one (ps_set (i := 2) sc_list_parts.nd rfl (Or.inl rfl) (pe_skip (pv 2) (pe_op op_sub (pv 3) pe_int) (pv 3))))))))
      (pss_one (ps_ret (pv 1)))))), ?_⟩
  refine ⟨Nat.zero_le _, fun r hr' => ?_⟩
  have ar : a ≠ r := ne_of_none ha hr'
  refine ⟨.ref a, rfl, ?_⟩
  change gName 2 _ _ _ _
  unfold gName
  change Ends.nx _ _ _
  dsimp only
  unfold tSeq
  dsimp only
  change tWhile _ _ _ _ _
  refine while_by (fun σ H' => ∃ (b : Addr) (rs : List Int) (us : List V) (Ms : List Lay) (y3 y4 : Option V), σ = [some (.ref a), some (.ref r), some (.ref b), y3, y4] ∧ Same H H' ∧ b ≠ r ∧ H' b = some (.lst (rs.map V.int)) ∧ NestV H H' r us Ms ∧ Ms.length + rs.length ≤ ws.length ∧ ∀ Ns, Parts rs Ns → Parts ws (Ms ++ Ns))
    (fun σ H' => match σ with | [_, _, some (.ref b), _, _] => (match H' b with | some (.lst xs) => xs.length | _ => 0) | _ => 0)
    ⟨a, ws, [], [], none, none, rfl, same_new hr', ar, by rw [upd_ne ar]; exact ha, NestV.nil upd_same, by simp, fun Ns h => h⟩ (fun σ H' h => ?_) (fun σ H' Q Q' hq hc => ?_)
  · obtain ⟨b, rs, us, Ms, y3, y4, rfl, sm, br, hb, hv, hlen, hp⟩ := h
    refine ⟨_, rfl, _, .inl ⟨_, sql hb, rfl⟩, ?_⟩
    have lus : us.length ≤ ws.length := by rw [hv.2.1]; omega
    cases rs with
    | nil =>
      refine iteF ⟨_, rfl, ?_⟩
      have := hp [] .nil
      rw [List.append_nil] at this
      exact q H' r us Ms sm hr' hv (by omega) this
    | cons r0 rs' =>
      refine iteT ?_
      generalize hrs : r0 :: rs' = rs at *
      have h0 : 0 < rs.length := by rw [← hrs]; exact Nat.succ_pos _
      refine ⟨_, rfl, b, rs, rfl, sql hb, by omega, fun H1 n s1 hm => ?_⟩
      obtain ⟨n2, hpc⟩ := sm_per hm h0
      have l0 := per_low0 hpc
      have hb1 := s1 _ _ hb
      refine ⟨_, rfl, _, rfl, _, _, rfl, rfl, _, rfl, b, _, rfl, sql hb1, fun p hp' => ?_⟩
      rw [show (n : Int) - 1 = ((n - 1 : Nat) : Int) by omega, cut_n, show (rs.map V.int).take (n - 1) = (blk rs n 0).map V.int by rw [← blk_map, Nat.zero_mul, List.drop_zero]]
      have sp := s1.trans (same_new (o := .lst ((blk rs n 0).map V.int)) hp')
      have ep := upd_same (H := H1) (a := p) (o := .lst ((blk rs n 0).map V.int))
      generalize upd H1 p (.lst ((blk rs n 0).map V.int)) = H2 at *
      have hv2 := hv.same sp
      have hb2 := sp _ _ hb
      have fp : H p = none := (sm.trans s1).free hp'
      have pr : p ≠ r := fun z => by
        have := s1 _ _ hv.1
        rw [← z, hp'] at this
        cases this
      have pb : p ≠ b := fun z => by rw [z, hb1] at hp'; cases hp'
      have sm2 := sm.trans sp
      have pos : 0 < (blk rs n 0).length := by omega
      have g0 : atI ((blk rs n 0).map V.int) 0 = some (.int (blk rs n 0)[0]) := atI_nat (j := 0) (map_get (List.getElem?_eq_getElem pos))
      have w0m := List.getElem_mem pos
      generalize (blk rs n 0)[0] = w0 at *
      obtain ⟨kq, hkq⟩ := hpc.2.1
      have kq1 : 1 ≤ kq := by
        rcases Nat.eq_zero_or_pos kq with z | z
        · rw [z, Nat.mul_zero] at hkq; omega
        · exact z
      have nkq : n ≤ n * kq := Nat.le_mul_of_pos_right _ (by omega)
      have lhi := high_len hpc.1 kq1 hkq
      have lhi2 : (pks rs (n - 1) n).length + 1 ≤ rs.length := by
        have : 2 * kq ≤ n * kq := Nat.mul_le_mul_right _ n2
        omega
      refine ⟨fun σ' H3 => ∃ us3 L, σ' = [some (.ref a), some (.ref r), some (.ref b), some (.int (n : Int)), some (.ref p)] ∧ Same H H3 ∧ H3 b = some (.lst (rs.map V.int)) ∧ NestV H H3 r us3 (Ms ++ [L]) ∧ ∀ Ns, Parts (pks rs (n - 1) n) Ns → Parts rs (L :: Ns), ?_, fun σ' H3 h3 => ?_⟩
      · refine ⟨_, rfl, .inl ⟨rfl, _, sql ep⟩, _, rfl, p, _, _, _, rfl, rfl, sql ep, g0, p, _, w0, rfl, rfl, sql ep, ?_⟩
        refine ⟨_, rfl, p, _, rfl, .inl (sql ep), rfl, _, rfl, ite2 (fun e => ?_) (fun e => ?_)⟩
        · have e' : (blk rs n 0).count w0 = (blk rs n 0).length := by
            have e1 := of_decide_eq_true e
            injection e1 with e1
            rw [List.length_map] at e1
            exact Int.ofNat.inj e1
          have e2 : blk rs n 0 = List.replicate (n - 1) w0 := List.eq_replicate_iff.mpr ⟨by omega, fun x hx => (List.count_eq_length.mp e' x hx).symm⟩
          refine ⟨_, rfl, .inl ⟨rfl, _, sql hv2.1⟩, _, rfl, p, _, _, _, rfl, rfl, sql ep, g0, _, rfl, size_le (by show 2 ≤ 100000; decide), fun t ht => ?_⟩
          have st := same_new (o := .tup [.int w0, .int (n : Int)]) ht
          have hv3 := hv2.same st
          have tr : t ≠ r := fun z => by rw [z, hv2.1] at ht; cases ht
          refine ⟨r, us, _, rfl, rfl, hv3.1, size_lt (by omega), us ++ [.ref t], .con w0 (n : Int), rfl, same_keep (sm2.trans st) hr', by rw [upd_ne br]; exact st _ _ hb2, hv3.push (L := .con w0 (n : Int)) ⟨t, rfl, upd_same⟩ tr (sm2.free ht), fun Ns h => .con h0 hm e2 h⟩
        · have e' : ¬ Flat1 (blk rs n 0) := fun ⟨w, hw⟩ => by
            apply e
            have ew : w0 = w := by
              rw [hw] at w0m
              exact (List.mem_replicate.mp w0m).2
            have : (blk rs n 0).count w0 = (blk rs n 0).length := List.count_eq_length.mpr fun x hx => by
              rw [hw] at hx
              rw [ew]
              exact (List.mem_replicate.mp hx).2.symm
            rw [this, List.length_map]
            exact decide_eq_true rfl
          exact ⟨_, rfl, .inl ⟨rfl, _, sql hv2.1⟩, _, rfl, r, us, _, rfl, rfl, hv2.1, size_lt (by omega), us ++ [.ref p], .pol (blk rs n 0), rfl, same_keep sm2 hr', by rw [upd_ne br]; exact hb2, hv2.push (L := .pol (blk rs n 0)) (x := p) ⟨p, rfl, ep⟩ pr fp, fun Ns h => .pol h0 hm e' h⟩
      · obtain ⟨us3, L, rfl, sm3, hb3, hv3, hparts⟩ := h3
        refine ⟨_, rfl, _, rfl, _, _, rfl, rfl, _, rfl, _, rfl, _, rfl, n - 1, n, by rw [show (n : Int) - 1 = ((n - 1 : Nat) : Int) by omega], rfl, by omega, b, _, rfl, sql hb3, by rw [List.length_map]; omega, by rw [List.length_map]; omega, fun c hc => ?_⟩
        rw [pks_map]
        have sc := same_new (o := .lst ((pks rs (n - 1) n).map V.int)) hc
        have cr : c ≠ r := fun z => by rw [z, hv3.1] at hc; cases hc
        refine ⟨⟨c, pks rs (n - 1) n, us3, Ms ++ [L], _, _, rfl, sm3.trans sc, cr, upd_same, hv3.same sc, ?_, fun Ns h => ?_⟩, ?_⟩
        · rw [List.length_append]
          show Ms.length + 1 + _ ≤ _
          omega
        · rw [List.append_assoc]
          exact hp _ (hparts Ns h)
        · show (match (upd H3 c (.lst ((pks rs (n - 1) n).map V.int))) c with | some (.lst xs) => xs.length | _ => 0) < (match H' b with | some (.lst xs) => xs.length | _ => 0)
          rw [upd_same, hb]
          show ((pks rs (n - 1) n).map V.int).length < (rs.map V.int).length
          rw [List.length_map, List.length_map]
          omega
  · obtain ⟨v, e1, k, t, z⟩ := hc
    exact ⟨v, e1, k, t, hq _ _ z⟩

end
end Rn
namespace Rn
open PySem PySem.Spec PyProof.Rows L2
section
variable {P : Program} {w : World} {K : PySem.W.Frag} {mg : Str → Option Value} {base : Heap}
def sp_layer_parts (K : PySem.W.Frag) : Sp := fun vs H Q _ => ∃ (v : V) (L : Lay), vs = [v] ∧ LayAt H v L ∧ L.ok = true ∧ (∀ ns, L = .pol ns → ns.length ≤ 20000) ∧
  ∀ H' r us Ms, Same H H' → H r = none → NestV N0 H' r us Ms → Ms.length ≤ 20000 → (∀ M ∈ Ms, M.nf) → (∀ ns, Lay.pol ns ∈ Ms → ns.length ≤ 20000) → flatL Ms = L.waits → Q (.ref r) H'
theorem ok_layer_parts (T : Txt P K mg) : FnOk P w K mg base CX0 5 T.f_layer_parts T.d_layer_parts ["layer"] (sp_layer_parts K) := by
  have G_list_parts := (ok_list_parts (P := P) (w := w) (base := base) T)
  refine T.F_layer_parts.ok sc_layer_parts (fun vs H Q E h => ?_) (fun cdv A outer s H vs Q E hr h => ?_)
  · obtain ⟨v, L, rfl, _⟩ := h
    rfl
  obtain ⟨v, L, rfl, hL, hok, hlen, q⟩ := h
  refine ⟨_, (pss_cons (ps_if (pt_val (pe_callB call_isi (by rfl) T.m_isinstance (by decide +kernel) (pa_cons (pv 0) (pa_cons (pe_bltn (v := .ty "tuple") (by rfl) T.m_tuple (by decide +kernel) rfl) pa_nil))))
      (pss_one (ps_ret (pe_ifExp (pt_cmpR op_gt (pe_ix ix_tup (pv 0) pe_int (fun _ _ => rfl)) pe_int (nomark _)) (pe_lst (pa_cons (pv 0) pa_nil)) (pe_lst pa_nil))))
      pss_nil)
      (pss_one (ps_ret (pe_call G_list_parts hr (by rfl) T.g_list_parts T.F_list_parts.kp T.b_list_parts .nil pass0 (pa_cons (pv 0) pa_nil))))), ?_⟩
  cases L with
  | con wt n =>
    obtain ⟨p, rfl, hp⟩ := hL
    have n1 : 1 ≤ n := LayAt.con_pos hok
    have w0 : 0 ≤ wt := by
      rw [Lay.ok_con, Bool.and_eq_true] at hok
      exact of_decide_eq_true hok.1
    refine ⟨_, rfl, _, _, _, _, true, rfl, .ty "tuple", .base (.tup hp), kit_ty (by decide +kernel), true, rfl, iteT ?_⟩
    refine ⟨_, rfl, p, _, 1, _, rfl, rfl, sqt hp, rfl, _, _, rfl, rfl, _, rfl, ite2 (fun e => ?_) (fun e => ?_)⟩
    · have e' : 1 < n := of_decide_eq_true e
      refine ⟨_, rfl, size_le (by show 1 ≤ 100000; decide), fun r hr' => ?_⟩
      have sr := same_new (o := .lst [.ref p]) hr'
      have pr : p ≠ r := fun z => by rw [z, hr'] at hp; cases hp
      have g : (Lay.con wt n).nf := ⟨w0, by omega⟩
      refine q _ r [.ref p] [.con wt n] sr hr' ⟨upd_same, rfl, fun i v L a b => ?_, fun x hx => ?_⟩ (by show 1 ≤ 20000; decide) (fun M hM => by rw [List.mem_singleton.mp hM]; exact g) (fun ns z => by cases List.mem_singleton.mp z) ?_
      · cases i with
        | zero => cases a; cases b; exact ⟨p, rfl, sr _ _ hp⟩
        | succ i => cases a
      · cases List.mem_singleton.mp hx
        exact ⟨pr, rfl⟩
      · rw [flatL_cons fun M hM => by rw [List.mem_singleton.mp hM]; exact g.ok]
        exact nestL_nil _
    · have e' : ¬ 1 < n := of_decide_eq_false (Bool.eq_false_iff.mpr e)
      refine ⟨Nat.zero_le _, fun r hr' => ?_⟩
      refine q _ r [] [] (same_new hr') hr' (NestV.nil upd_same) (Nat.zero_le _) (fun _ z => nomatch z) (fun _ z => nomatch z) ?_
      show [] = List.replicate (n - 1).toNat wt
      rw [show (n - 1).toNat = 0 by omega]
      rfl
  | pol ns =>
    obtain ⟨p, rfl, hp⟩ := hL
    refine ⟨_, rfl, _, _, _, _, false, rfl, .ty "tuple", .base (.lst hp), kit_ty (by decide +kernel), false, rfl, iteF ?_⟩
    have hnn : ∀ x ∈ ns, 0 ≤ x := fun x hx => by
      rw [Lay.ok_pol, List.all_eq_true] at hok
      exact of_decide_eq_true (hok x hx)
    refine ⟨_, rfl, p, ns, rfl, hp, hlen ns rfl, fun H' r us Ms sm fr hv hl hparts => ?_⟩
    obtain ⟨g1, g2⟩ := parts_ok hparts hnn
    have pl : ∀ ms, Lay.pol ms ∈ Ms → ms.length ≤ 20000 := fun ms hm => by
      have oks : ∀ M ∈ Ms, M.ok = true := fun M hM => (g1 M hM).ok
      have c := cnt_le oks hm
      have f := flatL_len _ Ms rfl oks
      rw [g2] at f
      have c2 : (Lay.pol ms).cnt = (ms.length : Int) + 1 := rfl
      have := hlen ns rfl
      omega
    exact q H' r us Ms sm fr ⟨hv.1, hv.2.1, hv.2.2.1, fun x hx => ⟨(hv.2.2.2 x hx).1, rfl⟩⟩ (by have := hlen ns rfl; omega) g1 pl g2

end
end Rn
namespace Rn
open PySem PySem.Spec PyProof.Rows L2
section
variable {P : Program} {w : World} {K : PySem.W.Frag} {mg : Str → Option Value} {base : Heap}
def sp_same_constant (K : PySem.W.Frag) : Sp := fun vs H Q _ => ∃ (u v : V) (L M : Lay), vs = [u, v] ∧ LayAt H u L ∧ LayAt H v M ∧ Q (.bl (sameC L M)) H
theorem ok_same_constant (T : Txt P K mg) : FnOk P w K mg base CX0 1 T.f_same_constant T.d_same_constant ["first", "second"] (sp_same_constant K) := by
  refine T.F_same_constant.ok sc_same_constant (fun vs H Q E h => ?_) (fun cdv A outer s H vs Q E hr h => ?_)
  · obtain ⟨u, v, L, M, rfl, _⟩ := h
    rfl
  obtain ⟨u, v, L, M, rfl, hL, hM, q⟩ := h
  refine ⟨_, (pss_one (ps_ret (pe_and (pe_callB call_isi (by rfl) T.m_isinstance (by decide +kernel) (pa_cons (pv 0) (pa_cons (pe_bltn (v := .ty "tuple") (by rfl) T.m_tuple (by decide +kernel) rfl) pa_nil))) (pe_and (pe_callB call_isi (by rfl) T.m_isinstance (by decide +kernel) (pa_cons (pv 1) (pa_cons (pe_bltn (v := .ty "tuple") (by rfl) T.m_tuple (by decide +kernel) rfl) pa_nil))) (pe_one (pe_cmpR op_eq (pe_ix ix_tup (pv 0) pe_int (fun _ _ => rfl)) (pe_ix ix_tup (pv 1) pe_int (fun _ _ => rfl)) (nomark _))))))), ?_⟩
  cases L with
  | pol ns =>
    obtain ⟨p, rfl, hp⟩ := hL
    exact ⟨_, rfl, _, _, _, _, false, rfl, .ty "tuple", .base (.lst hp), kit_ty (by decide +kernel), false, rfl, iteF q⟩
  | con a n =>
    obtain ⟨p, rfl, hp⟩ := hL
    refine ⟨_, rfl, _, _, _, _, true, rfl, .ty "tuple", .base (.tup hp), kit_ty (by decide +kernel), true, rfl, iteT ?_⟩
    cases M with
    | pol ms =>
      obtain ⟨p2, rfl, hp2⟩ := hM
      exact ⟨_, rfl, _, _, _, _, false, rfl, .ty "tuple", .base (.lst hp2), kit_ty (by decide +kernel), false, rfl, iteF q⟩
    | con b m =>
      obtain ⟨p2, rfl, hp2⟩ := hM
      refine ⟨_, rfl, _, _, _, _, true, rfl, .ty "tuple", .base (.tup hp2), kit_ty (by decide +kernel), true, rfl, iteT ?_⟩
      refine ⟨_, rfl, p, _, 0, _, rfl, rfl, sqt hp, rfl, _, rfl, p2, _, 0, _, rfl, rfl, sqt hp2, rfl, rfl, ?_⟩
      have e : decide (V.int a = V.int b) = sameC (.con a n) (.con b m) := by
        show _ = decide (a = b)
        rw [Bool.eq_iff_iff, decide_eq_true_eq, decide_eq_true_eq]
        exact ⟨fun z => by injection z, fun z => by rw [z]⟩
      rw [e]
      exact q

end
end Rn
namespace Rn
open PySem PySem.Spec PyProof.Rows L2
section
variable {P : Program} {w : World} {K : PySem.W.Frag} {mg : Str → Option Value} {base : Heap}
theorem push_yes {A : List Lay} {w n m : Int} : pushL (A ++ [.con w n]) (.con w m) = A ++ [.con w (n * m)] := by
  rcases push_cases (A ++ [.con w n]) (.con w m) with ⟨A', w', n', m', e1, e2, e3⟩ | ⟨_, h⟩
  · obtain ⟨a1, a2⟩ := List.append_inj' e1 rfl
    cases a2
    cases e2
    rw [e3, a1]
  · exact absurd rfl (h A w n w m rfl rfl)
theorem push_no {acc : List Lay} {L : Lay} (h : ∀ A B, acc = A ++ [B] → sameC B L = false) : pushL acc L = acc ++ [L] := by
  rcases push_cases acc L with ⟨A, w, n, m, rfl, rfl, _⟩ | ⟨e, _⟩
  · have := h A (.con w n) rfl
    have e : sameC (.con w n) (.con w m) = true := decide_eq_true rfl
    rw [e] at this
    cases this
  · exact e
theorem NestV.no_ref {H0 G : Hp} {p t : Addr} {us : List V} {Ls : List Lay} (hv : NestV H0 G p us Ls) (ht : G t = none) : V.ref t ∉ us := fun hm => by
  obtain ⟨i, hi, e⟩ := List.getElem_of_mem hm
  have hl : i < Ls.length := by rw [← hv.2.1]; exact hi
  have := hv.2.2.1 i (V.ref t) Ls[i] (by rw [List.getElem?_eq_getElem hi, e]) (List.getElem?_eq_getElem hl)
  generalize Ls[i] = L at this
  cases L with
  | pol ns => obtain ⟨x, e1, e2⟩ := this; cases e1; rw [ht] at e2; cases e2
  | con w n => obtain ⟨x, e1, e2⟩ := this; cases e1; rw [ht] at e2; cases e2
theorem NestV.nd {H0 G : Hp} {p t : Addr} {us : List V} {Ls : List Lay} (hv : NestV H0 G p us Ls) (hn : us.Nodup) (ht : G t = none) : (us ++ [V.ref t]).Nodup := by
  have := hv.no_ref ht
  rw [List.nodup_append]
  refine ⟨hn, List.nodup_cons.mpr ⟨(fun z => nomatch z), List.nodup_nil⟩, fun x hx y hy z => ?_⟩
  rw [List.mem_singleton.mp hy] at z
  exact this (z ▸ hx)
def sp_merged (K : PySem.W.Frag) : Sp := fun vs H Q _ => ∃ (a : Addr) (Ls : List Lay), vs = [.ref a] ∧ NestAt H a Ls ∧ (∀ L ∈ Ls, L.nf) ∧ Ls.length ≤ 90000 ∧ (attOf Ls).natAbs < 2 ^ 9000 ∧
  ∀ H' r us, Same H H' → H r = none → NestV H H' r us (mergeL Ls) → us.Nodup → Q (.ref r) H'
theorem ok_merged (T : Txt P K mg) : FnOk P w K mg base CX0 2 T.f_merged T.d_merged ["layers"] (sp_merged K) := by
  have G_same_constant := (ok_same_constant (P := P) (w := w) (base := base) T)
  refine T.F_merged.ok sc_merged (fun vs H Q E h => ?_) (fun cdv A outer s H vs Q E hr h => ?_)
  · obtain ⟨a, Ls, rfl, _⟩ := h
    rfl
  obtain ⟨a, Ls, rfl, hN, hnf, hl9, hbig, q⟩ := h
  refine ⟨_, (pss_cons (ps_set (i := 1) sc_merged.nd rfl (Or.inl rfl) (pe_lst pa_nil))
      (pss_cons (ps_for PassesOwn.never rfl (pi_list (pv 0)) (pg_name (i := 2) sc_merged.nd rfl (Or.inl rfl))
      (pss_one (ps_if (PW.pt (pw_and (pt_truth (pv 1) (by intro _; rfl)) (pw_and1 (pt_val (pe_call G_same_constant hr (by rfl) T.g_same_constant T.F_same_constant.kp T.b_same_constant .nil pass0 (pa_cons (pe_ix ix_list (pv 1) (pe_un un_neg pe_int) (fun _ _ => rfl)) (pa_cons (pv 2) pa_nil)))))))
      (pss_cons (ps_asg (pe_ix ix_list (pv 1) (pe_un un_neg pe_int) (fun _ _ => rfl)) (pg_tup rfl (pgs_cons (pg_name (i := 3) sc_merged.nd rfl (Or.inl rfl)) (pgs_cons (pg_name (i := 4) sc_merged.nd rfl (Or.inl rfl)) pgs_nil))))
      (pss_one (ps_asg (pe_tup (pa_cons (pv 3) (pa_cons (pe_op op_mulW (pv 4) (pe_ix ix_tup (pv 2) pe_int (fun _ _ => rfl))) pa_nil))) (pg_sub (pv 1) (pe_un un_neg pe_int) set_list))))
      (pss_one (ps_if (pt_val (pe_callB call_isi (by rfl) T.m_isinstance (by decide +kernel) (pa_cons (pv 2) (pa_cons (pe_bltn (v := .ty "tuple") (by rfl) T.m_tuple (by decide +kernel) rfl) pa_nil))))
      (pss_one (ps_expr (pe_bm PySem.F.plainAttrs_list PySem.F.slot_list_append PySem.F.type_list_append mt_append (pv 1) (pa_cons (pe_tup (pa_cons (pe_ix ix_tup (pv 2) pe_int (fun _ _ => rfl)) (pa_cons (pe_ix ix_tup (pv 2) pe_int (fun _ _ => rfl)) pa_nil))) pa_nil))))
      (pss_one (ps_expr (pe_bm PySem.F.plainAttrs_list PySem.F.slot_list_append PySem.F.type_list_append mt_append (pv 1) (pa_cons (pe_callTy call_list_of (by rfl) T.m_list (by decide +kernel) (pa_cons (pv 2) pa_nil)) pa_nil)))))))))
      (pss_one (ps_ret (pv 1))))), ?_⟩
  obtain ⟨xs, hv0, hlx, hat⟩ := hN
  refine ⟨Nat.zero_le _, fun r hr' => ?_⟩
  have sr := same_new (o := .lst []) hr'
  have okA : ∀ L ∈ Ls, L.ok = true := fun L hL => (hnf L hL).ok
  refine ⟨_, rfl, a, rfl, ⟨_, sql (sr _ _ hv0)⟩, for_list (xs := xs) (fun i σ H' => ∃ us y2 y3 y4, σ = [some (.ref a), some (.ref r), y2, y3, y4] ∧ Same H H' ∧ NestV H H' r us (mergeL (Ls.take i)) ∧ us.length ≤ i ∧ us.Nodup)
    ⟨[], none, none, none, rfl, sr, NestV.nil upd_same, Nat.le_refl _, List.nodup_nil⟩ (fun i σ H' _ h => by obtain ⟨_, _, _, _, _, sm, _⟩ := h; exact sql (sm _ _ hv0)) (fun i x σ H' hx h => ?_) (fun σ H' h => ?_)⟩
  · obtain ⟨us, y2, y3, y4, rfl, sm, hv, hus, hnd⟩ := h
    have hi : i < Ls.length := by
      rw [← hlx]
      exact (List.getElem?_eq_some_iff.mp hx).1
    have hi' := List.getElem?_eq_getElem hi
    have lay0 := hat i x _ hx hi'
    have tk : Ls.take (i + 1) = Ls.take i ++ [Ls[i]] := by rw [List.take_add_one, hi']; rfl
    have hmem := List.getElem_mem hi
    have gL := hnf _ hmem
    have mk : mergeL (Ls.take (i + 1)) = pushL (mergeL (Ls.take i)) Ls[i] := by
      unfold mergeL
      rw [tk, List.foldl_append]
      rfl
    have okT : ∀ L ∈ Ls.take i, L.nf := fun L hL => hnf L (List.mem_of_mem_take hL)
    obtain ⟨mN, mF⟩ := merge_ok okT
    have cl := cnt_le okA hmem
    have attm : attOf (mergeL (Ls.take i)) ≤ attOf Ls := by
      have h1 := flatL_len _ (mergeL (Ls.take i)) rfl mN.oks
      have h2 := flatL_len _ (Ls.take i) rfl fun L hL => (okT L hL).ok
      rw [mF] at h1
      have h3 := (attOf_part (Ls.take i) (Ls.drop i) (fun L hL => okA L (List.mem_of_mem_drop hL)) fun L hL => (okT L hL).ok).2
      rw [List.take_append_drop] at h3
      omega
    rw [mk]
    have lay := lay0.same sm
    have i9 : i < 90000 := by omega
    generalize Ls[i] = L at *
    generalize mergeL (Ls.take i) = acc at *
    have put : pushL acc L = acc ++ [L] → (match L with
        | .con wt n => ∀ t, H' t = none → ∃ us2 z2 z3 z4, [some (V.ref a), some (.ref r), some x, y3, y4] = [some (.ref a), some (.ref r), z2, z3, z4] ∧ Same H (upd (upd H' t (.tup [.int wt, .int n])) r (.lst (us ++ [.ref t]))) ∧ NestV H (upd (upd H' t (.tup [.int wt, .int n])) r (.lst (us ++ [.ref t]))) r us2 (pushL acc L) ∧ us2.length ≤ i + 1 ∧ us2.Nodup
        | .pol ns => ∀ t, H' t = none → ∃ us2 z2 z3 z4, [some (V.ref a), some (.ref r), some x, y3, y4] = [some (.ref a), some (.ref r), z2, z3, z4] ∧ Same H (upd (upd H' t (.lst (ns.map V.int))) r (.lst (us ++ [.ref t]))) ∧ NestV H (upd (upd H' t (.lst (ns.map V.int))) r (.lst (us ++ [.ref t]))) r us2 (pushL acc L) ∧ us2.length ≤ i + 1 ∧ us2.Nodup) := fun e => by
      have key : ∀ t o, H' t = none → LayAt (upd H' t o) (.ref t) L → NestV H (upd (upd H' t o) r (.lst (us ++ [.ref t]))) r (us ++ [.ref t]) (acc ++ [L]) := fun t o ht hlay => by
        have tr : t ≠ r := fun z => by rw [z, hv.1] at ht; cases ht
        exact (hv.same (same_new ht)).push hlay tr (sm.free ht)
      have len : (us ++ [V.ref a]).length ≤ i + 1 := by rw [List.length_append]; exact Nat.succ_le_succ hus
      rw [e]
      cases L with
      | con wt n => exact fun t ht => ⟨us ++ [.ref t], some x, y3, y4, rfl, same_keep (sm.trans (same_new ht)) hr', key t _ ht ⟨t, rfl, upd_same⟩, by rw [List.length_append] at len ⊢; exact len, hv.nd hnd ht⟩
      | pol ns => exact fun t ht => ⟨us ++ [.ref t], some x, y3, y4, rfl, same_keep (sm.trans (same_new ht)) hr', key t _ ht ⟨t, rfl, upd_same⟩, by rw [List.length_append] at len ⊢; exact len, hv.nd hnd ht⟩
    refine ⟨_, rfl, _, .inl ⟨us, sql hv.1, rfl⟩, ?_⟩
    have lus : (us.length : Nat) < 90000 := by omega
    rcases List.eq_nil_or_concat us with e | ⟨vs, u, e⟩
    · subst e
      have acc0 : acc = [] := List.length_eq_zero_iff.mp hv.2.1.symm
      have hpush : pushL acc L = acc ++ [L] := push_no fun A B z => by rw [acc0] at z; exact absurd z (by simp)
      have put := put hpush
      refine iteF ?_
      cases L with
      | con wt n =>
        obtain ⟨p, rfl, hp⟩ := lay
        refine ⟨_, rfl, _, _, _, _, true, rfl, .ty "tuple", .base (.tup hp), kit_ty (by decide +kernel), true, rfl, iteT ?_⟩
        refine ⟨_, rfl, .inl ⟨rfl, _, sql hv.1⟩, _, rfl, p, _, 0, _, rfl, rfl, sqt hp, rfl, _, rfl, p, _, 1, _, rfl, rfl, sqt hp, rfl, size_le (by show 2 ≤ 100000; decide), fun t ht => ?_⟩
        exact ⟨r, _, _, rfl, rfl, same_new ht _ _ hv.1, size_lt (by show 0 < 100000; decide), put t ht⟩
      | pol ns =>
        obtain ⟨p, rfl, hp⟩ := lay
        refine ⟨_, rfl, _, _, _, _, false, rfl, .ty "tuple", .base (.lst hp), kit_ty (by decide +kernel), false, rfl, iteF ?_⟩
        refine ⟨_, rfl, .inl ⟨rfl, _, sql hv.1⟩, _, rfl, p, _, rfl, .inl (sql hp), fun t ht => ?_⟩
        exact ⟨r, _, _, rfl, rfl, same_new ht _ _ hv.1, size_lt (by show 0 < 100000; decide), put t ht⟩
    · rw [List.concat_eq_append] at e
      subst e
      obtain ⟨A, B, eAB⟩ : ∃ A B, acc = A ++ [B] := by
        rcases List.eq_nil_or_concat acc with z | ⟨A, B, z⟩
        · have := hv.2.1
          rw [z] at this
          simp at this
        · exact ⟨A, B, by rw [z, List.concat_eq_append]⟩
      subst eAB
      have lA : vs.length = A.length := by
        have := hv.2.1
        rw [List.length_append, List.length_append] at this
        exact Nat.succ.inj this
      have layB : LayAt H' u B := hv.2.2.1 vs.length u B (by rw [List.getElem?_append_right (Nat.le_refl _), Nat.sub_self]; rfl) (by rw [lA, List.getElem?_append_right (Nat.le_refl _), Nat.sub_self]; rfl)
      refine (if_pos (by simp)).mpr ?_
      refine ⟨_, rfl, _, rfl, r, _, _, u, rfl, rfl, sql hv.1, atI_last vs u, _, rfl, u, x, B, L, rfl, layB, lay, _, rfl, ?_⟩
      cases hc : sameC B L with
      | true =>
        refine iteT ?_
        cases B with
        | pol ns => cases L <;> cases hc
        | con wt n =>
          cases L with
          | pol ns => cases hc
          | con v m =>
            have ev : wt = v := of_decide_eq_true hc
            subst ev
            obtain ⟨pB, rfl, hpB⟩ := layB
            obtain ⟨p, rfl, hp⟩ := lay
            have hB := mN.1 (.con wt n) (List.mem_append_right _ List.mem_cons_self)
            have cB := cnt_le mN.oks (List.mem_append_right A (List.mem_cons_self (a := Lay.con wt n) (l := [])))
            have cB2 : (Lay.con wt n).cnt = n := rfl
            have cL2 : (Lay.con wt m).cnt = m := rfl
            have nB : 2 ≤ n := hB.2
            have mB : 2 ≤ m := gL.2
            have wm : CMulW n m := wide_mul (a := 9000) (b := 9000) (Nat.lt_of_le_of_lt (show n.natAbs ≤ (attOf Ls).natAbs by omega) hbig) (Nat.lt_of_le_of_lt (show m.natAbs ≤ (attOf Ls).natAbs by omega) hbig) (by decide) (by decide) (by decide)
            refine ⟨_, rfl, _, rfl, r, _, _, .ref pB, rfl, rfl, sql hv.1, atI_last vs _, pB, _, rfl, sqt hpB, rfl, _, _, rfl, _, _, rfl, rfl, ?_⟩
            refine ⟨_, rfl, _, rfl, _, rfl, p, _, 1, _, rfl, rfl, sqt hp, rfl, _, _, rfl, rfl, wm, size_le (by show 2 ≤ 100000; decide), fun t ht => ?_⟩
            have st := same_new (o := .tup [.int wt, .int (n * m)]) ht
            have tr : t ≠ r := fun z => by rw [z, hv.1] at ht; cases ht
            refine ⟨_, rfl, _, rfl, r, _, -1, (vs ++ [V.ref pB]).length - 1, rfl, rfl, st _ _ hv.1, ixN_last (by rw [List.length_append]; exact Nat.succ_pos _), ?_⟩
            have sw := (hv.same st).swap (C := .con wt (n * m)) ⟨t, rfl, upd_same⟩ tr (sm.free ht)
            rw [set_last]
            refine ⟨vs ++ [.ref t], _, _, _, rfl, same_keep (sm.trans st) hr', by rw [push_yes]; exact sw, ?_, ?_⟩
            · rw [List.length_append] at hus ⊢
              exact Nat.le_succ_of_le hus
            · have := hv.no_ref ht
              rw [List.nodup_append] at hnd ⊢
              refine ⟨hnd.1, List.nodup_cons.mpr ⟨(fun z => nomatch z), List.nodup_nil⟩, fun x hx y hy z => ?_⟩
              rw [List.mem_singleton.mp hy] at z
              exact this (List.mem_append_left _ (z ▸ hx))
      | false =>
        have hpush : pushL (A ++ [B]) L = (A ++ [B]) ++ [L] := push_no fun A' B' z => by
          have := (List.append_inj' z rfl).2
          cases this
          exact hc
        have put := put hpush
        refine iteF ?_
        cases L with
        | con wt n =>
          obtain ⟨p, rfl, hp⟩ := lay
          refine ⟨_, rfl, _, _, _, _, true, rfl, .ty "tuple", .base (.tup hp), kit_ty (by decide +kernel), true, rfl, iteT ?_⟩
          refine ⟨_, rfl, .inl ⟨rfl, _, sql hv.1⟩, _, rfl, p, _, 0, _, rfl, rfl, sqt hp, rfl, _, rfl, p, _, 1, _, rfl, rfl, sqt hp, rfl, size_le (by show 2 ≤ 100000; decide), fun t ht => ?_⟩
          exact ⟨r, _, _, rfl, rfl, same_new ht _ _ hv.1, size_lt (by omega), put t ht⟩
        | pol ns =>
          obtain ⟨p, rfl, hp⟩ := lay
          refine ⟨_, rfl, _, _, _, _, false, rfl, .ty "tuple", .base (.lst hp), kit_ty (by decide +kernel), false, rfl, iteF ?_⟩
          refine ⟨_, rfl, .inl ⟨rfl, _, sql hv.1⟩, _, rfl, p, _, rfl, .inl (sql hp), fun t ht => ?_⟩
          exact ⟨r, _, _, rfl, rfl, same_new ht _ _ hv.1, size_lt (by omega), put t ht⟩
  · obtain ⟨us, y2, y3, y4, rfl, sm, hv, hus, hnd⟩ := h
    rw [hlx, List.take_length] at hv
    exact ⟨_, rfl, q H' r us sm hr' hv hnd⟩

end
end Rn
namespace Rn
open PySem PySem.Spec PyProof.Rows L2
section
variable {P : Program} {w : World} {K : PySem.W.Frag} {mg : Str → Option Value} {base : Heap}
theorem nf_pow : ∀ {ls : List Lay}, (∀ L ∈ ls, L.nf) → 2 ^ ls.length ≤ (flatL ls).length + 1
  | [], _ => by show 2 ^ 0 ≤ 0 + 1; decide
  | L :: ls, h => by
    rw [flatL_cons fun M hM => (h M hM).ok, nestL_len, List.length_cons, Nat.pow_succ, Nat.mul_comm]
    have h1 := nf_pow fun M hM => h M (List.mem_cons_of_mem _ hM)
    have h2 : 2 ≤ L.waits.length + 1 := (h L List.mem_cons_self).sz
    exact Nat.mul_le_mul h2 h1
theorem yes_then {σ : L2.St} {H : Hp} {A B : Hp → Prop} (h : A H) : tYes σ H (fun b H3 => if b = true then A H3 else B H3) := by
  change (if true = true then A H else B H)
  exact (if_pos rfl).mpr h
theorem nf_short {ls As Bs : List Lay} (h : ∀ L ∈ ls, L.nf) (e : flatL ls = flatL As) (hA : ∀ L ∈ As, L.ok = true) (hB : ∀ L ∈ Bs, L.ok = true) (hb : (attOf (As ++ Bs)).natAbs < 2 ^ 9000) : ls.length < 9000 := by
  have h1 := nf_pow h
  have h2 := flatL_len _ As rfl hA
  have h3 := (attOf_part As Bs hB hA).2
  rw [e] at h1
  have h4 : 2 ^ ls.length < 2 ^ 9000 := by
    generalize 2 ^ 9000 = B at *
    generalize 2 ^ ls.length = C at *
    omega
  exact (Nat.pow_lt_pow_iff_right (by decide)).mp h4
def sp_normal_form (K : PySem.W.Frag) (C : Addr) : Sp := fun vs H Q E => ∃ (a : Addr) (Ls : List Lay), vs = [.ref a] ∧ NestAt H a Ls ∧
  (badAt Ls = none → Ls.length ≤ 20000 ∧ (attOf Ls).natAbs < 2 ^ 9000 ∧ (∀ ns, Lay.pol ns ∈ Ls → ns.length ≤ 20000) ∧ ∀ H' r us Ms, Same H H' → H r = none → NestV H H' r us Ms → NF Ms → flatL Ms = flatL Ls → us.Nodup → Q (.ref r) H') ∧ ∀ i : Nat, badAt Ls = some i → Err C (.int i) H E
theorem ok_normal_form (T : Txt P K mg) : FnOk P w K mg base (L2.CX P w) 6 T.f_normal_form T.d_normal_form ["nesting"] (sp_normal_form K T.C_InvalidLayer) := by
  have G_check_nesting := (ok_check_nesting (P := P) (w := w) (base := base) T).mono (by decide : 3 ≤ 5)
  have G_merged := (ok_merged (P := P) (w := w) (base := base) T).mono (by decide : 2 ≤ 5)
  have G_layer_parts := (ok_layer_parts (P := P) (w := w) (base := base) T)
  refine T.F_normal_form.okX sc_normal_form (fun vs H Q E h => ?_) (fun cdv A outer s H vs Q E hr h => ?_)
  · obtain ⟨a, Ls, rfl, _⟩ := h
    rfl
  obtain ⟨a, Ls, rfl, hN, q0, qe⟩ := h
  refine ⟨_, (pss_cons (ps_expr (pe_callS G_check_nesting hr (by rfl) T.g_check_nesting T.F_check_nesting.kp T.b_check_nesting (fun σ => passAt (takes_of rfl rfl rfl rfl) σ) (pa_cons (pv 0) pa_nil)))
      (pss_one (ps_ret (pe_call G_merged hr (by rfl) T.g_merged T.F_merged.kp T.b_merged .nil pass0 (pa_cons (pe_lc2 (own := [("layer", 1), ("part", 2)]) (vs1 := [2]) (g := gName 1) (g1 := gName 2) (tt := tYes) (tt1 := tYes) rfl sc_normal_form.nd (pi_list (pv 0)) (blkOk_by (N := ["nesting", "layer", "part"]) (sc := defScope s_normal_form) (by decide +kernel)) (by decide) (fun _ _ _ _ _ => (pg_name (i := 1) sc_normal_form.nd rfl (Or.inl rfl))) (fun _ _ _ _ _ => pts_nil) (fun _ _ _ _ _ => (pi_listK (K := K) rfl (pe_call G_layer_parts hr (by rfl) T.g_layer_parts T.F_layer_parts.kp T.b_layer_parts .nil pass0 (pa_cons (pv 1) pa_nil)))) (fun _ _ _ _ _ => (pg_name (i := 2) sc_normal_form.nd rfl (Or.inl rfl))) (fun _ _ _ _ _ => pts_nil) (fun _ _ _ _ _ => (pv 2))) pa_nil))))), ?_⟩
  refine ⟨_, rfl, a, Ls, rfl, hN, fun hb0 H1 s1 => ?_, qe⟩
  have hok := badAt_none hb0
  obtain ⟨hl4, hbig, hpl, q⟩ := q0 hb0
  obtain ⟨xs, hv0, hlx, hat⟩ := id (hN.same s1)
  refine ⟨_, rfl, a, rfl, ⟨_, sql hv0⟩, fun D hD => ?_⟩
  have hbig2 : ∀ i, (attOf (Ls.take i ++ Ls.drop i)).natAbs < 2 ^ 9000 := fun i => by rw [List.take_append_drop]; exact hbig
  have okT : ∀ i, ∀ L ∈ Ls.take i, L.ok = true := fun i L hL => hok L (List.mem_of_mem_take hL)
  have okD : ∀ i, ∀ L ∈ Ls.drop i, L.ok = true := fun i L hL => hok L (List.mem_of_mem_drop hL)
  refine out_list (vs := []) (σ := []) (xs := xs) (fun i H' => ∃ us Ms, Same H1 H' ∧ NestV N0 H' D us Ms ∧ (∀ M ∈ Ms, M.nf) ∧ (∀ ns, Lay.pol ns ∈ Ms → ns.length ≤ 20000) ∧ flatL Ms = flatL (Ls.take i))
    ⟨[], [], same_new hD, NestV.nil upd_same, (fun _ z => nomatch z), (fun _ z => nomatch z), rfl⟩ (fun i H' _ h => by obtain ⟨_, _, sm, _⟩ := h; exact sql (sm _ _ hv0)) (fun i x H2 hx h => ?_) (fun H2 h => ?_)
  · obtain ⟨us, Ms, sm, hv, hnf, hpm, hflat⟩ := h
    have hi : i < Ls.length := by
      rw [← hlx]
      exact (List.getElem?_eq_some_iff.mp hx).1
    have hi' := List.getElem?_eq_getElem hi
    have lay := (hat i x _ hx hi').same sm
    have hmem := List.getElem_mem hi
    have tk : Ls.take (i + 1) = Ls.take i ++ [Ls[i]] := by rw [List.take_add_one, hi']; rfl
    have lok := hok _ hmem
    have lpl : ∀ ns, Ls[i] = .pol ns → ns.length ≤ 20000 := fun ns e => hpl ns (e ▸ hmem)
    have msl := nf_short hnf hflat (okT i) (okD i) (hbig2 i)
    generalize Ls[i] = L at *
    refine ⟨rfl, yes_then ?_⟩
    refine ⟨_, rfl, x, L, rfl, lay, lok, lpl, fun H4 r us4 Ms4 sm4 fr hv4 hl4' hnf4 hpl4 hflat4 => ⟨r, rfl, ⟨_, sql hv4.1⟩, ?_⟩⟩
    have hv2 := hv.same sm4
    have rD : r ≠ D := fun z => by rw [z, hv.1] at fr; cases fr
    have lus : us.length < 9000 := by rw [hv.2.1]; exact msl
    have lus4 : us4.length ≤ 20000 := by rw [hv4.2.1]; exact hl4'
    refine in_list (ys := us4) (fun j H' => NestV N0 H' D (us ++ us4.take j) (Ms ++ Ms4.take j) ∧ ∀ b, b ≠ D → H' b = H4 b) ⟨by rw [List.take_zero, List.take_zero, List.append_nil, List.append_nil]; exact hv2, fun _ _ => rfl⟩ (fun j H' _ h => sql ((h.2 r rD).trans hv4.1)) (fun j y H' hy h => ?_) (fun H' h => ?_)
    · obtain ⟨hw, hkeep⟩ := h
      have hj : j < us4.length := (List.getElem?_eq_some_iff.mp hy).1
      have hj2 : j < Ms4.length := by rw [← hv4.2.1]; exact hj
      have hm := List.getElem?_eq_getElem hj2
      have lay4 := hv4.2.2.1 j y _ hy hm
      have nfj := hnf4 _ (List.getElem_mem hj2)
      have tu : us4.take (j + 1) = us4.take j ++ [y] := by rw [List.take_add_one, hy]; rfl
      have tm : Ms4.take (j + 1) = Ms4.take j ++ [Ms4[j]] := by rw [List.take_add_one, hm]; rfl
      generalize Ms4[j] = M at *
      obtain ⟨e, rfl⟩ := lay4.ref
      have eD : e ≠ D := fun z => by
        subst z
        have hD4 := hv2.1
        cases M with
        | con wt n =>
          obtain ⟨p, e1, e2⟩ := lay4
          cases e1
          rw [hD4] at e2
          cases e2
        | pol ns =>
          obtain ⟨p, e1, e2⟩ := lay4
          cases e1
          rw [hD4] at e2
          injection (Option.some.inj e2) with e3
          obtain ⟨n0, hn0⟩ : ∃ n0, ns[0]? = some n0 := ⟨ns[0]'nfj.1.1, List.getElem?_eq_getElem nfj.1.1⟩
          have e4 : us[0]? = some (.int n0) := by rw [e3, List.getElem?_map, hn0]; rfl
          obtain ⟨hl0, _⟩ := List.getElem?_eq_some_iff.mp e4
          have hl1 : 0 < Ms.length := by rw [← hv.2.1]; exact hl0
          obtain ⟨z, hz⟩ := (hv.2.2.1 0 _ _ e4 (List.getElem?_eq_getElem hl1)).ref
          cases hz
      have layn : LayAt H' (.ref e) M := by
        cases M with
        | con wt n =>
          obtain ⟨p, e1, e2⟩ := lay4
          cases e1
          exact ⟨_, rfl, (hkeep _ eD).trans e2⟩
        | pol ns =>
          obtain ⟨p, e1, e2⟩ := lay4
          cases e1
          exact ⟨_, rfl, (hkeep _ eD).trans e2⟩
      refine ⟨rfl, yes_then ⟨_, rfl, _, hw.1, size_lt (by rw [List.length_append, List.length_take]; omega), ?_, fun b hb => ?_⟩⟩
      · have := hw.push layn eD rfl
        rw [List.append_assoc, List.append_assoc, ← tu, ← tm] at this
        rw [List.append_assoc, ← tu]
        exact this
      · rw [upd_ne hb]
        exact hkeep b hb
    · obtain ⟨hw, hkeep⟩ := h
      rw [List.take_length, hv4.2.1, List.take_length] at hw
      refine ⟨us ++ us4, Ms ++ Ms4, fun b o hb => ?_, hw, fun M hM => ?_, fun ns hM => ?_, ?_⟩
      · have bD : b ≠ D := fun z => by rw [z, hD] at hb; cases hb
        rw [hkeep b bD]
        exact sm4 _ _ (sm _ _ hb)
      · rcases List.mem_append.mp hM with z | z
        · exact hnf M z
        · exact hnf4 M z
      · rcases List.mem_append.mp hM with z | z
        · exact hpm ns z
        · exact hpl4 ns z
      · rw [tk, flat_app (fun M hM => (hnf M hM).ok) (fun M hM => (hnf4 M hM).ok), flatF (okT i) _ lok, hflat, hflat4]
  · obtain ⟨us, Ms, sm, hv, hnf, hpm, hflat⟩ := h
    rw [hlx] at hflat
    have msl := nf_short hnf hflat (okT _) (okD _) (hbig2 _)
    have hflat2 := hflat
    rw [List.take_length] at hflat2
    obtain ⟨mN, mF⟩ := merge_ok hnf
    have e1 := flatL_len _ Ms rfl fun M hM => (hnf M hM).ok
    have e2 := flatL_len _ Ls rfl hok
    rw [hflat2] at e1
    exact ⟨D, Ms, rfl, hv.nest, hnf, by omega, by rw [← e1, e2]; exact hbig, fun H' r us' sm2 fr hv' nd' => q H' r us' (mergeL Ms) (s1.trans (sm.trans sm2)) ((s1.trans sm).free fr) ⟨hv'.1, hv'.2.1, hv'.2.2.1, fun x hx => ⟨(hv'.2.2.2 x hx).1, (s1.trans sm).free (hv'.2.2.2 x hx).2⟩⟩ mN (mF.trans hflat2) nd'⟩
/-- .. where nothing is invalid -/
def sp_normal_form0 (K : PySem.W.Frag) : Sp := fun vs H Q _ => ∃ (a : Addr) (Ls : List Lay), vs = [.ref a] ∧ NestAt H a Ls ∧ Fit Ls ∧ ∀ H' r us, Same H H' → H r = none → NestV H H' r us (nfL Ls) → us.Nodup → Q (.ref r) H'
theorem ok_normal_form0 (T : Txt P K mg) : FnOk P w K mg base CX0 6 T.f_normal_form T.d_normal_form ["nesting"] (sp_normal_form0 K) :=
  calm0 (ok_normal_form T) fun vs H Q E h => by
    obtain ⟨a, Ls, rfl, hN, hf, q⟩ := h
    exact ⟨a, Ls, rfl, hN, fun _ => ⟨hf.few, hf.small, hf.short, fun H' r us Ms s f v n e nd => by rw [← nfL_is hf.ok n e] at v; exact q H' r us s f v nd⟩, fun i hi => by rw [badAt_all hf.ok] at hi; cases hi⟩

end
end Rn
namespace Rn
open PySem PySem.Spec PyProof.Rows L2
section
variable {P : Program} {w : World} {K : PySem.W.Frag} {mg : Str → Option Value} {base : Heap}
def sp_layer_attempts (K : PySem.W.Frag) : Sp := fun vs H Q _ => ∃ (v : V) (L : Lay), vs = [v] ∧ LayAt H v L ∧ Q (.int L.cnt) H
theorem ok_layer_attempts (T : Txt P K mg) : FnOk P w K mg base CX0 1 T.f_layer_attempts T.d_layer_attempts ["layer"] (sp_layer_attempts K) := by
  refine T.F_layer_attempts.ok sc_layer_attempts (fun vs H Q E h => ?_) (fun cdv A outer s H vs Q E hr h => ?_)
  · obtain ⟨v, L, rfl, _⟩ := h
    rfl
  obtain ⟨v, L, rfl, hL, q⟩ := h
  refine ⟨_, (pss_cons (ps_if (pt_val (pe_callB call_isi (by rfl) T.m_isinstance (by decide +kernel) (pa_cons (pv 0) (pa_cons (pe_bltn (v := .ty "tuple") (by rfl) T.m_tuple (by decide +kernel) rfl) pa_nil))))
      (pss_one (ps_ret (pe_ix ix_tup (pv 0) pe_int (fun _ _ => rfl))))
      pss_nil)
      (pss_one (ps_ret (pe_op op_add (pe_callB call_len_seq (by rfl) T.m_len PySem.boot_len (pa_cons (pv 0) pa_nil)) pe_int)))), ?_⟩
  cases L with
  | con wt n =>
    obtain ⟨p, rfl, hp⟩ := hL
    exact ⟨_, rfl, _, _, _, _, true, rfl, .ty "tuple", .base (.tup hp), kit_ty (by decide +kernel), true, rfl, iteT ⟨_, rfl, p, _, 1, _, rfl, rfl, sqt hp, rfl, q⟩⟩
  | pol ns =>
    obtain ⟨p, rfl, hp⟩ := hL
    refine ⟨_, rfl, _, _, _, _, false, rfl, .ty "tuple", .base (.lst hp), kit_ty (by decide +kernel), false, rfl, iteF ⟨_, rfl, p, _, rfl, .inl (sql hp), _, _, rfl, rfl, ?_⟩⟩
    rw [List.length_map]
    exact q

end
end Rn
namespace Rn
open PySem PySem.Spec PyProof.Rows L2
section
variable {P : Program} {w : World} {K : PySem.W.Frag} {mg : Str → Option Value} {base : Heap}
def sp_attempts (K : PySem.W.Frag) : Sp := fun vs H Q _ => ∃ (a : Addr) (Ls : List Lay), vs = [.ref a] ∧ NestAt H a Ls ∧ (∀ L ∈ Ls, L.ok = true) ∧ (attOf Ls).natAbs < 2 ^ 1000 ∧ ∀ H', Same H H' → Q (.int (attOf Ls)) H'
theorem ok_attempts (T : Txt P K mg) : FnOk P w K mg base CX0 4 T.f_attempts T.d_attempts ["nesting"] (sp_attempts K) := by
  have G_check_nesting := ok_check_nesting0 (P := P) (w := w) (base := base) T
  have G_layer_attempts := (ok_layer_attempts (P := P) (w := w) (base := base) T).mono (by decide : 1 ≤ 3)
  refine T.F_attempts.ok sc_attempts (fun vs H Q E h => ?_) (fun cdv A outer s H vs Q E hr h => ?_)
  · obtain ⟨a, Ls, rfl, _⟩ := h
    rfl
  obtain ⟨a, Ls, rfl, hN, hok, hb, q⟩ := h
  refine ⟨_, (pss_cons (ps_expr (pe_call G_check_nesting hr (by rfl) T.g_check_nesting T.F_check_nesting.kp T.b_check_nesting .nil pass0 (pa_cons (pv 0) pa_nil)))
      (pss_cons (ps_set (i := 1) sc_attempts.nd rfl (Or.inl rfl) pe_int)
      (pss_cons (ps_for PassesOwn.never rfl (pi_list (pv 0)) (pg_name (i := 2) sc_attempts.nd rfl (Or.inl rfl))
      (pss_one (ps_set (i := 1) sc_attempts.nd rfl (Or.inl rfl) (pe_op op_mulW (pv 1) (pe_call G_layer_attempts hr (by rfl) T.g_layer_attempts T.F_layer_attempts.kp T.b_layer_attempts .nil pass0 (pa_cons (pv 2) pa_nil))))))
      (pss_one (ps_ret (pv 1)))))), ?_⟩
  refine ⟨_, rfl, a, Ls, rfl, hN, hok, fun H1 s1 => ?_⟩
  obtain ⟨vs, hv, hl, hat⟩ := id (hN.same s1)
  refine ⟨_, rfl, a, rfl, ⟨vs, sql hv⟩, for_list (xs := vs) (fun i σ H' => (∃ y2, σ = [some (.ref a), some (.int (attOf (Ls.take i))), y2]) ∧ H' = H1) ⟨⟨none, rfl⟩, rfl⟩ (fun i σ H' _ h => by rw [h.2]; exact sql hv) (fun i x σ H' hx h => ?_) (fun σ H' h => ?_)⟩
  · obtain ⟨⟨y2, rfl⟩, rfl⟩ := h
    have hi : i < Ls.length := by
      rw [← hl]
      exact (List.getElem?_eq_some_iff.mp hx).1
    have hi' := List.getElem?_eq_getElem hi
    have okT : ∀ L ∈ Ls.take i, L.ok = true := fun L hL => hok L (List.mem_of_mem_take hL)
    obtain ⟨p1, p2⟩ := attOf_part (Ls.take i) (Ls.drop i) (fun L hL => hok L (List.mem_of_mem_drop hL)) okT
    rw [List.take_append_drop] at p2
    have i2 : (attOf (Ls.take i)).natAbs < 2 ^ 1000 := Nat.lt_of_le_of_lt (by omega) hb
    have h1 := hok _ (List.getElem_mem hi)
    have h3 := LayAt.con_pos h1
    have h4 := cnt_le hok (List.getElem_mem hi)
    have h2 : Ls[i].cnt.natAbs < 2 ^ 1000 := Nat.lt_of_le_of_lt (by omega) hb
    refine ⟨_, rfl, _, rfl, x, Ls[i], rfl, hat i x _ hx hi', _, _, rfl, rfl, wide_mul (a := 1000) (b := 1000) i2 h2 (by decide) (by decide) (by decide), ⟨some x, ?_⟩, rfl⟩
    rw [List.take_add_one, hi', Option.toList_some, attOf_snoc]
    rfl
  · obtain ⟨⟨y2, rfl⟩, rfl⟩ := h
    refine ⟨_, rfl, ?_⟩
    rw [hl, List.take_length]
    exact q _ s1

end
end Rn
namespace Rn
open PySem PySem.Spec PyProof.Rows L2
section
variable {P : Program} {w : World} {K : PySem.W.Frag} {mg : Str → Option Value} {base : Heap}
def sp_law_pool (K : PySem.W.Frag) : Sp := fun vs H Q _ => ∃ (a : Addr) (ns : List Int) (i : Nat), vs = [.ref a, .int (i : Int)] ∧ SqL K H a (ns.map V.int) ∧ ns.length ≤ 63 ∧ i ≤ 100 ∧ ∀ H' p, Same H H' → H p = none → Rng H' p 0 → Q (.ref p) H'
theorem ok_law_pool (T : Txt P K mg) : FnOk P w K mg base CX0 1 T.f_law_pool T.d_law_pool ["script", "at"] (sp_law_pool K) := by
  refine T.F_law_pool.ok sc_law_pool (fun vs H Q E h => ?_) (fun cdv A outer s H vs Q E hr h => ?_)
  · obtain ⟨a, ns, i, rfl, _⟩ := h
    rfl
  obtain ⟨a, ns, i, rfl, hS, hl, hi, q⟩ := h
  refine ⟨_, (pss_cons (ps_set (i := 2) sc_law_pool.nd rfl (Or.inl rfl) pe_int)
      (Evl.pss_cut (ps_if (pt_cmpR op_lt (pv 1) (pe_callB call_len_seq (by rfl) T.m_len PySem.boot_len (pa_cons (pv 0) pa_nil)) (nomark _))
      (pss_one (ps_set (i := 2) sc_law_pool.nd rfl (Or.inl rfl) (pe_ix ix_list (pv 0) (pv 1) (fun _ _ => rfl))))
      pss_nil)
      (pss_one (ps_ret (pe_lst (pa_cons (pe_callB (call_max2 rfl) (by rfl) T.m_max (by decide +kernel) (pa_cons pe_int (pa_cons (pe_op op_sub (pe_callB call_abs (by rfl) T.m_abs (by decide +kernel) (pa_cons (pv 2) pa_nil)) (pe_op op_pow pe_int pe_int)) pa_nil))) (pa_cons (pe_op op_add (pe_op op_mod (pv 2) pe_int) (pe_op op_mul pe_int (pe_op op_add (pv 1) pe_int))) (pa_cons pe_int pa_nil)))))))), ?_⟩
  refine ⟨fun σ' H' => ∃ c : Int, σ' = [some (.ref a), some (.int (i : Int)), some (.int c)] ∧ H' = H, ?_, fun σ' H' h => ?_⟩
  · refine ⟨_, rfl, _, rfl, a, _, rfl, .inl hS, _, _, rfl, rfl, _, rfl, ite2 (fun e => ?_) (fun _ => ⟨0, rfl, rfl⟩)⟩
    have e' : (i : Int) < ((ns.map V.int).length : Nat) := of_decide_eq_true e
    rw [List.length_map] at e'
    obtain ⟨x, _, _, hat⟩ := at_int (ns := ns) (i := (i : Int)) (by omega) (by omega)
    exact ⟨_, rfl, _, rfl, a, _, _, .int x, rfl, rfl, hS, hat, x, rfl, rfl⟩
  · obtain ⟨c, rfl, rfl⟩ := h
    have q2 : (0 : Int) < 2305843009213693951 := by decide
    have r0 := Int.emod_nonneg c (show (2305843009213693951 : Int) ≠ 0 by decide)
    have r1 := Int.emod_lt_of_pos c q2
    refine ⟨_, rfl, _, rfl, ?_⟩
    generalize (if c < 0 then -c else c) = ab
    refine ⟨_, _, rfl, rfl, ⟨by decide, by decide, by decide⟩, _, _, rfl, rfl, _, _, rfl, ?_⟩
    generalize (if ab - 10 ^ (18 : Int).toNat > 0 then ab - 10 ^ (18 : Int).toNat else 0) = dg
    refine ⟨_, rfl, _, _, rfl, rfl, q2, _, rfl, _, _, rfl, rfl, _, _, rfl, rfl, .inl ⟨by decide, by decide⟩, _, _, rfl, rfl, size_le (by show 3 ≤ 100000; decide), fun p hp => ?_⟩
    exact q _ p (same_new hp) hp ⟨dg, _, 0, upd_same, by omega, by omega, by decide, by decide⟩

end
end Rn
namespace Rn
open PySem PySem.Spec PyProof.Rows L2
section
variable {P : Program} {w : World} {K : PySem.W.Frag} {mg : Str → Option Value} {base : Heap}
def sp_law_draw (K : PySem.W.Frag) : Sp := fun vs H Q _ => ∃ (a : Addr) (n limit : Int), vs = [.ref a, .int limit] ∧ Rng H a n ∧ n ≤ 1000000000 ∧ Lim limit ∧
  ∀ H' r, Rdv a 1 H H' → 0 ≤ r → r < limit → Q (.int r) H'
theorem ok_law_draw (T : Txt P K mg) : FnOk P w K mg base CX0 1 T.f_law_draw T.d_law_draw ["pool", "many"] (sp_law_draw K) := by
  refine T.F_law_draw.ok sc_law_draw (fun vs H Q E h => ?_) (fun cdv A outer s H vs Q E hr h => ?_)
  · obtain ⟨a, n, limit, rfl, _⟩ := h
    rfl
  obtain ⟨a, n, limit, rfl, hS, hn, hm, q⟩ := h
  have hm0 := hm.1
  refine ⟨_, (pss_cons (ps_if (pt_cmpR op_gt (pe_ix ix_list (pv 0) pe_int (fun _ _ => rfl)) pe_int (nomark _))
      (pss_cons (ps_set (i := 2) sc_law_draw.nd rfl (Or.inl rfl) (pe_op op_mod (pe_ix ix_list (pv 0) pe_int (fun _ _ => rfl)) (pv 1)))
      (pss_cons (ps_asg (pe_op op_fdivW (pe_ix ix_list (pv 0) pe_int (fun _ _ => rfl)) (pv 1)) (pg_sub (pv 0) pe_int set_list))
      (pss_one (ps_ret (pv 2)))))
      pss_nil)
      (pss_cons (ps_asg (pe_op op_add (pe_ix ix_list (pv 0) pe_int (fun _ _ => rfl)) pe_int) (pg_sub (pv 0) pe_int set_list))
      (pss_cons (ps_set (i := 3) sc_law_draw.nd rfl (Or.inl rfl) (pe_op op_mod (pe_op op_pow (pe_op op_add (pe_ix ix_list (pv 0) pe_int (fun _ _ => rfl)) (pe_op op_mul pe_int (pe_ix ix_list (pv 0) pe_int (fun _ _ => rfl)))) pe_int) pe_int))
      (pss_cons (ps_set (i := 3) sc_law_draw.nd rfl (Or.inl rfl) (pe_op op_mod (pe_op op_powW (pe_op op_add (pv 3) (pe_op op_mul pe_int (pe_ix ix_list (pv 0) pe_int (fun _ _ => rfl)))) pe_int) pe_int))
      (pss_one (ps_ret (pe_op op_mod (pe_op op_fdivW (pv 3) pe_int) (pv 1)))))))), ?_⟩
  obtain ⟨dg, seed, cnt, ha, s0, s1, c0, c1⟩ := hS
  have p1 : (0 : Int) < 162259276829213363391578010288127 := by decide
  have p2 : (0 : Int) < 170141183460469231731687303715884105727 := by decide
  -- if pool[0] > 0
  refine ⟨_, rfl, a, _, 0, _, rfl, rfl, sql ha, rfl, _, _, rfl, rfl, _, rfl, ite2 (fun e => ?_) (fun e => ?_)⟩
  · refine ⟨_, rfl, a, _, 0, _, rfl, rfl, sql ha, rfl, _, rfl, _, _, rfl, rfl, hm0, ?_⟩
    refine ⟨_, rfl, a, _, 0, _, rfl, rfl, sql ha, rfl, _, rfl, _, _, rfl, rfl, hm, _, rfl, a, _, 0, 0, rfl, rfl, ha, rfl, ?_⟩
    refine ⟨_, rfl, q _ _ (Rdv.made (dg' := dg / limit) (cnt' := cnt) ?_ ha upd_same (by omega) (by omega)) (Int.emod_nonneg _ (by omega)) (Int.emod_lt_of_pos _ hm0)⟩
    rw [hid_src1]
    exact Same.refl _
  · refine ⟨_, rfl, a, _, 2, _, rfl, rfl, sql ha, rfl, _, _, rfl, rfl, _, rfl, a, _, 2, 2, rfl, rfl, ha, rfl, ?_⟩
    have ha2 : (upd H a (.lst [.int dg, .int seed, .int (cnt + 1)])) a = some (.lst [.int dg, .int seed, .int (cnt + 1)]) := upd_same
    have sm2 : Same (hid a a H) (hid a a (upd H a (.lst [.int dg, .int seed, .int (cnt + 1)]))) := by rw [hid_src1]; exact Same.refl _
    show tSeq _ _ _ _ (upd H a (.lst [.int dg, .int seed, .int (cnt + 1)]))
    generalize upd H a (.lst [.int dg, .int seed, .int (cnt + 1)]) = H2 at *
    refine ⟨_, rfl, a, _, 1, _, rfl, rfl, sql ha2, rfl, _, rfl, a, _, 2, _, rfl, rfl, sql ha2, rfl, _, _, rfl, rfl, .inl ⟨by decide, by decide⟩, _, _, rfl, rfl, _, _, rfl, rfl, ⟨by decide, by decide, by omega⟩, _, _, rfl, rfl, p1, ?_⟩
    generalize (seed + 67867979 * (cnt + 1)) ^ (3 : Int).toNat = big
    have b0 := Int.emod_nonneg big (show (162259276829213363391578010288127 : Int) ≠ 0 by decide)
    have b1 := Int.emod_lt_of_pos big p1
    generalize big % 162259276829213363391578010288127 = mx at *
    refine ⟨_, rfl, _, rfl, a, _, 2, _, rfl, rfl, sql ha2, rfl, _, _, rfl, rfl, .inl ⟨by decide, by decide⟩, _, _, rfl, rfl, _, _, rfl, rfl, pow_ok5 (k := 120) (by omega) (by decide) (by decide), _, _, rfl, rfl, p2, ?_⟩
    refine ⟨_, rfl, _, _, rfl, rfl, wide_div (b := 21) (by decide) (by decide) (by decide) (by decide), _, rfl, _, _, rfl, rfl, hm0, ?_⟩
    exact q H2 _ (Rdv.made sm2 ha ha2 (by omega) (by omega)) (Int.emod_nonneg _ (by omega)) (Int.emod_lt_of_pos _ hm0)

end
end Rn
namespace Rn
open PySem PySem.Spec PyProof.Rows L2
section
variable {P : Program} {w : World} {K : PySem.W.Frag} {mg : Str → Option Value} {base : Heap}
def sp_law_size (K : PySem.W.Frag) : Sp := fun vs H Q _ => ∃ (v : V) (L : Lay), vs = [v] ∧ LayAt H v L ∧ Q (.int L.cnt) H
theorem ok_law_size (T : Txt P K mg) : FnOk P w K mg base CX0 1 T.f_law_size T.d_law_size ["tier"] (sp_law_size K) := by
  refine T.F_law_size.ok sc_law_size (fun vs H Q E h => ?_) (fun cdv A outer s H vs Q E hr h => ?_)
  · obtain ⟨v, L, rfl, _⟩ := h
    rfl
  obtain ⟨v, L, rfl, hL, q⟩ := h
  refine ⟨_, (pss_one (ps_ret (pe_ifExp (pt_val (pe_callB call_isi (by rfl) T.m_isinstance (by decide +kernel) (pa_cons (pv 0) (pa_cons (pe_bltn (v := .ty "tuple") (by rfl) T.m_tuple (by decide +kernel) rfl) pa_nil)))) (pe_ix ix_tup (pv 0) pe_int (fun _ _ => rfl)) (pe_op op_add (pe_callB call_len_seq (by rfl) T.m_len PySem.boot_len (pa_cons (pv 0) pa_nil)) pe_int)))), ?_⟩
  cases L with
  | con wt n =>
    obtain ⟨p, rfl, hp⟩ := hL
    exact ⟨_, rfl, _, _, _, _, true, rfl, .ty "tuple", .base (.tup hp), kit_ty (by decide +kernel), true, rfl, iteT ⟨_, rfl, p, _, 1, _, rfl, rfl, sqt hp, rfl, q⟩⟩
  | pol ns =>
    obtain ⟨p, rfl, hp⟩ := hL
    refine ⟨_, rfl, _, _, _, _, false, rfl, .ty "tuple", .base (.lst hp), kit_ty (by decide +kernel), false, rfl, iteF ⟨_, rfl, p, _, rfl, .inl (sql hp), _, _, rfl, rfl, ?_⟩⟩
    rw [List.length_map]
    exact q

end
end Rn
namespace Rn
open PySem PySem.Spec PyProof.Rows L2
section
variable {P : Program} {w : World} {K : PySem.W.Frag} {mg : Str → Option Value} {base : Heap}
def sp_law_wait (K : PySem.W.Frag) : Sp := fun vs H Q _ => ∃ (a : Addr) (n : Int), vs = [.ref a] ∧ Rng H a n ∧ n ≤ 100000000 ∧ ∀ H' r, Rdv a 4 H H' → 0 ≤ r → r < 1000000000000 → Q (.int r) H'
theorem ok_law_wait (T : Txt P K mg) : FnOk P w K mg base CX0 2 T.f_law_wait T.d_law_wait ["pool"] (sp_law_wait K) := by
  have G_law_draw := ok_law_draw (P := P) (w := w) (base := base) T
  refine T.F_law_wait.ok sc_law_wait (fun vs H Q E h => ?_) (fun cdv A outer s H vs Q E hr h => ?_)
  · obtain ⟨a, n, rfl, _⟩ := h
    rfl
  obtain ⟨a, n, rfl, hS, hn, q⟩ := h
  refine ⟨_, (pss_one (ps_ret (pe_ix ix_list (pe_lst (pa_cons pe_int (pa_cons pe_int (pa_cons pe_int (pa_cons pe_int (pa_cons (pe_call G_law_draw hr (by rfl) T.g_law_draw T.F_law_draw.kp T.b_law_draw .nil pass0 (pa_cons (pv 0) (pa_cons pe_int pa_nil))) (pa_cons (pe_call G_law_draw hr (by rfl) T.g_law_draw T.F_law_draw.kp T.b_law_draw .nil pass0 (pa_cons (pv 0) (pa_cons pe_int pa_nil))) (pa_cons (pe_call G_law_draw hr (by rfl) T.g_law_draw T.F_law_draw.kp T.b_law_draw .nil pass0 (pa_cons (pv 0) (pa_cons (pe_op op_pow pe_int pe_int) pa_nil))) pa_nil)))))))) (pe_call G_law_draw hr (by rfl) T.g_law_draw T.F_law_draw.kp T.b_law_draw .nil pass0 (pa_cons (pv 0) (pa_cons pe_int pa_nil))) (fun _ _ => rfl)))), ?_⟩
  have pw : (10 : Int) ^ (12 : Int).toNat = 1000000000000 := by decide
  refine ⟨_, rfl, a, _, 10, rfl, hS, by omega, lim (by decide) (by decide), fun H1 r1 A1 l1 u1 => ?_⟩
  have S1 := A1.src _ hS
  refine ⟨_, rfl, a, _, 1000, rfl, S1, by omega, lim (by decide) (by decide), fun H2 r2 A2 l2 u2 => ?_⟩
  have S2 := A2.src _ S1
  refine ⟨_, rfl, _, _, rfl, rfl, ⟨by decide, by decide, by decide⟩, a, _, _, rfl, S2, by omega, lim (by decide) (by decide), fun H3 r3 A3 l3 u3 => ⟨size_le (by show 7 ≤ 100000; decide), fun o ho => ?_⟩⟩
  rw [pw] at u3
  have S3 := A3.src _ S2
  have no := S3.new1 ho
  have A4 : Rdv a 3 H (upd H3 o (.lst [.int 0, .int 1, .int 2, .int 5, .int r1, .int r2, .int r3])) := (((A1.trans A2 (Int.le_refl _)).trans A3 (Int.le_refl _)).trans (Rdv.of (same_new ho)) (Int.le_refl _)).mono (by omega)
  have e4 : hid a a (upd H3 o (.lst [.int 0, .int 1, .int 2, .int 5, .int r1, .int r2, .int r3])) o = some (.lst (([0, 1, 2, 5, r1, r2, r3] : List Int).map V.int)) := by
    rw [hid_oth no no, upd_same]
    rfl
  have S4 := A4.src _ hS
  refine ⟨_, rfl, a, _, 7, rfl, S4, by omega, lim (by decide) (by decide), fun H5 r5 A5 l5 u5 => ?_⟩
  obtain ⟨x, hx, _, hat⟩ := at_int (ns := [0, 1, 2, 5, r1, r2, r3]) l5 u5
  have hb : 0 ≤ x ∧ x < 1000000000000 := by
    simp only [List.mem_cons, List.not_mem_nil, or_false] at hx
    omega
  exact ⟨o, _, r5, .int x, rfl, rfl, sql (hid_get (A5.same _ _ e4)).1, hat, q H5 x ((A4.trans A5 (Int.le_refl _)).mono (by omega)) hb.1 hb.2⟩

end
end Rn
namespace Rn
open PySem PySem.Spec PyProof.Rows L2
section
variable {P : Program} {w : World} {K : PySem.W.Frag} {mg : Str → Option Value} {base : Heap}
def sp_law_tier (K : PySem.W.Frag) : Sp := fun vs H Q _ => ∃ (a : Addr) (n most : Int), vs = [.ref a, .int most] ∧ Rng H a n ∧ n ≤ 10000000 ∧ 1 ≤ most ∧ most < 1000000000000000000000 ∧
  ∀ H' x L, Rdv a 100 H H' → H x = none → LayAt (hid a a H') (.ref x) L → L.nice → L.cnt ≤ most → Q (.ref x) H'
theorem ok_law_tier (T : Txt P K mg) : FnOk P w K mg base CX0 3 T.f_law_tier T.d_law_tier ["pool", "most"] (sp_law_tier K) := by
  have G_law_draw := (ok_law_draw (P := P) (w := w) (base := base) T).mono (by decide : 1 ≤ 2)
  have G_law_wait := ok_law_wait (P := P) (w := w) (base := base) T
  refine T.F_law_tier.ok sc_law_tier (fun vs H Q E h => ?_) (fun cdv A outer s H vs Q E hr h => ?_)
  · obtain ⟨a, n, most, rfl, _⟩ := h
    rfl
  obtain ⟨a, n, most, rfl, hS, hn, m1, m2, q⟩ := h
  refine ⟨_, (pss_cons (ps_if (pt_cmpR op_eq (pe_call G_law_draw hr (by rfl) T.g_law_draw T.F_law_draw.kp T.b_law_draw .nil pass0 (pa_cons (pv 0) (pa_cons pe_int pa_nil))) pe_int (nomark _))
      (pss_one (ps_ret (pe_tup (pa_cons (pe_call G_law_wait hr (by rfl) T.g_law_wait T.F_law_wait.kp T.b_law_wait .nil pass0 (pa_cons (pv 0) pa_nil)) (pa_cons (pe_op op_add pe_int (pe_call G_law_draw hr (by rfl) T.g_law_draw T.F_law_draw.kp T.b_law_draw .nil pass0 (pa_cons (pv 0) (pa_cons (pv 1) pa_nil)))) pa_nil)))))
      pss_nil)
      (pss_cons (ps_set (i := 2) sc_law_tier.nd rfl (Or.inr rfl) (pe_lc (own := [("turn", 3)]) (g := gName 3) (tt := tYes) rfl sc_law_tier.nd (pi_range1 (by rfl) T.m_range (pa_cons (pe_op op_add pe_int (pe_call G_law_draw hr (by rfl) T.g_law_draw T.F_law_draw.kp T.b_law_draw .nil pass0 (pa_cons (pv 0) (pa_cons pe_int pa_nil)))) pa_nil)) (blkOk_by (N := ["pool", "most", "kinds", "turn"]) (sc := defScope s_law_tier) (by decide +kernel)) (fun _ _ _ _ _ => (pg_name (i := 3) sc_law_tier.nd rfl (Or.inl rfl))) (fun _ _ _ _ _ => pts_nil) (fun _ _ _ _ _ => (pe_call G_law_wait hr (by rfl) T.g_law_wait T.F_law_wait.kp T.b_law_wait .nil pass0 (pa_cons (pv 0) pa_nil)))))
      (pss_one (ps_ret (pe_lc (own := [("turn", 3)]) (g := gName 3) (tt := tYes) rfl sc_law_tier.nd (pi_range1 (by rfl) T.m_range (pa_cons (pe_call G_law_draw hr (by rfl) T.g_law_draw T.F_law_draw.kp T.b_law_draw .nil pass0 (pa_cons (pv 0) (pa_cons (pe_callB (call_min2 rfl) (by rfl) T.m_min (by decide +kernel) (pa_cons pe_int (pa_cons (pv 1) pa_nil))) pa_nil))) pa_nil)) (blkOk_by (N := ["pool", "most", "kinds", "turn"]) (sc := defScope s_law_tier) (by decide +kernel)) (fun _ _ _ _ _ => (pg_name (i := 3) sc_law_tier.nd rfl (Or.inl rfl))) (fun _ _ _ _ _ => pts_nil) (fun _ _ _ _ _ => (pe_ix (ix_listK (K := K) rfl) (pv 2) (pe_call G_law_draw hr (by rfl) T.g_law_draw T.F_law_draw.kp T.b_law_draw .nil pass0 (pa_cons (pv 0) (pa_cons (pe_callB (call_len_seqK (K := K) rfl) (by rfl) T.m_len PySem.boot_len (pa_cons (pv 2) pa_nil)) pa_nil))) (fun _ _ => rfl)))))))), ?_⟩
  refine ⟨_, rfl, a, _, 2, rfl, hS, by omega, lim (by decide) (by decide), fun H1 r1 A1 l1 u1 => ?_⟩
  have S1 := A1.src _ hS
  refine ⟨rfl, _, rfl, ite2 (fun _ => ?_) (fun _ => ?_)⟩
  · refine ⟨_, rfl, a, _, rfl, S1, by omega, fun H2 c A2 l2 u2 => ?_⟩
    have S2 := A2.src _ S1
    refine ⟨_, rfl, _, rfl, a, _, most, rfl, S2, by omega, lim (by omega) (by omega), fun H3 r3 A3 l3 u3 => ⟨_, _, rfl, rfl, size_le (by show 2 ≤ 100000; decide), fun t ht => ?_⟩⟩
    have S3 := A3.src _ S2
    have nt := S3.new1 ht
    have B3 : Rdv a 6 H H3 := ((A1.trans A2 (Int.le_refl _)).trans A3 (Int.le_refl _)).mono (by omega)
    exact q _ t (.con c (1 + r3)) ((B3.trans (Rdv.of (same_new ht)) (Int.le_refl _)).mono (by omega)) (B3.free hS ht) ⟨t, rfl, by rw [hid_oth nt nt, upd_same]⟩ (Lay.nice_con l2 u2 (by omega) (by omega)) (by show 1 + r3 ≤ most; omega)
  · -- kinds
    refine ⟨_, rfl, a, _, 4, rfl, S1, by omega, lim (by decide) (by decide), fun H2 r2 A2 l2 u2 => ⟨_, _, rfl, rfl, _, rfl, by omega, by omega, fun D hD => ?_⟩⟩
    have B2 : Rdv a 2 H H2 := (A1.trans A2 (Int.le_refl _)).mono (by omega)
    have S2 := B2.src _ hS
    have nD := S2.new1 hD
    have fD : H D = none := B2.free hS hD
    refine lc_range (lo := 0) (n := (1 + r2).toNat) (fun i H' => ∃ ks : List Int, hid a a H' D = some (.lst (ks.map V.int)) ∧ ks.length = i ∧ (∀ x ∈ ks, 0 ≤ x ∧ x < 1000000000000) ∧ Rdv a (2 + 4 * i) H H')
      ⟨[], by rw [hid_oth nD nD, upd_same]; rfl, rfl, (fun _ z => nomatch z), (B2.trans (Rdv.of (same_new hD)) (Int.le_refl _)).mono (by omega)⟩ (fun i H4 hi h => ?_) (fun H4 h => ?_)
    · obtain ⟨ks, hk, hkl, hkb, A4⟩ := h
      have S4 := A4.src _ hS
      refine ⟨rfl, _, rfl, a, _, rfl, S4, by omega, fun H5 x A5 l5 u5 => ?_⟩
      refine ⟨_, (hid_get (A5.same _ _ hk)).1, size_lt (by rw [List.length_map]; omega), ks ++ [x], by rw [hid_oth nD nD, upd_same, List.map_append]; rfl, by rw [List.length_append, hkl]; rfl, fun y hy => ?_, ((A4.trans A5 (Int.le_refl _)).mut hS fD).mono (by omega)⟩
      rcases List.mem_append.mp hy with z | z
      · exact hkb y z
      · rw [List.mem_singleton.mp z]
        exact ⟨l5, u5⟩
    · obtain ⟨ks, hk, hkl, hkb, A4⟩ := h
      have A4' : Rdv a 18 H H4 := A4.mono (by omega)
      have S4 := A4'.src _ hS
      have mn : ∃ mx : Int, (if most < 60 then most else 60) = mx ∧ 1 ≤ mx ∧ mx ≤ most ∧ mx ≤ 60 := ⟨_, rfl, by split <;> omega, by split <;> omega, by split <;> omega⟩
      obtain ⟨mx, emx, mx0, mx1, mx2⟩ := mn
      refine ⟨_, rfl, _, rfl, _, _, rfl, ?_⟩
      rw [emx]
      refine ⟨a, _, mx, rfl, S4, by omega, lim (by omega) (by omega), fun H5 sz A5 l5 u5 => ⟨_, rfl, by omega, by omega, fun C hC => ?_⟩⟩
      have B5 : Rdv a 19 H H5 := (A4'.trans A5 (Int.le_refl _)).mono (by omega)
      have S5 := B5.src _ hS
      have hk5 := A5.same _ _ hk
      have nC := S5.new1 hC
      have fC : H C = none := B5.free hS hC
      have nDC : D ≠ C := fun z => by rw [z, hid_none hC] at hk5; cases hk5
      refine lc_range (lo := 0) (n := sz.toNat) (fun i H' => ∃ us : List Int, hid a a H' C = some (.lst (us.map V.int)) ∧ us.length = i ∧ (∀ x ∈ us, 0 ≤ x ∧ x < 1000000000000) ∧ hid a a H' D = some (.lst (ks.map V.int)) ∧ Rdv a (19 + i) H H')
        ⟨[], by rw [hid_oth nC nC, upd_same]; rfl, rfl, (fun _ z => nomatch z), hid_same (same_new hC) _ _ hk5, (B5.trans (Rdv.of (same_new hC)) (Int.le_refl _)).mono (by omega)⟩ (fun i H6 hi h => ?_) (fun H6 h => ?_)
      · obtain ⟨us, hu, hul, hub, hkk, A6⟩ := h
        have S6 := A6.src _ hS
        refine ⟨rfl, _, rfl, _, rfl, _, rfl, D, _, rfl, .inl (sql (hid_get hkk).1), a, _, _, rfl, S6, by omega, lim (by rw [List.length_map]; omega) (by rw [List.length_map]; omega), fun H7 r7 A7 l7 u7 => ?_⟩
        rw [List.length_map] at u7
        obtain ⟨x, hx, _, hat⟩ := at_int (ns := ks) l7 u7
        have hxb := hkb x hx
        have hk7 := A7.same _ _ hkk
        refine ⟨D, _, r7, .int x, rfl, rfl, sql (hid_get hk7).1, hat, ?_⟩
        refine ⟨_, (hid_get (A7.same _ _ hu)).1, size_lt (by rw [List.length_map]; omega), us ++ [x], by rw [hid_oth nC nC, upd_same, List.map_append]; rfl, by rw [List.length_append, hul]; rfl, fun y hy => ?_, by rw [hid_oth nC nC, upd_ne nDC]; exact hk7, ((A6.trans A7 (Int.le_refl _)).mut hS fC).mono (by omega)⟩
        rcases List.mem_append.mp hy with z | z
        · exact hub y z
        · rw [List.mem_singleton.mp z]
          exact hxb
      · obtain ⟨us, hu, hul, hub, hkk, A6⟩ := h
        exact q H6 C (.pol us) (A6.mono (by omega)) fC ⟨C, rfl, hu⟩ (Lay.nice_pol (by omega) hub) (by show (us.length : Int) + 1 ≤ most; omega)

end
end Rn
namespace Rn
open PySem PySem.Spec PyProof.Rows L2
section
variable {P : Program} {w : World} {K : PySem.W.Frag} {mg : Str → Option Value} {base : Heap}
def sp_law_small (K : PySem.W.Frag) : Sp := fun vs H Q _ => ∃ (a : Addr) (n most : Int), vs = [.ref a, .int most] ∧ Rng H a n ∧ n ≤ 1000000 ∧ 1 ≤ most ∧ most ≤ 1000000 ∧
  ∀ H' p us Ls, Rdv a 600 H H' → H p = none → NestV H (hid a a H') p us Ls → Ls.length ≤ 5 → (∀ L ∈ Ls, L.nice ∧ L.cnt ≤ 30) → attOf Ls ≤ most → Q (.ref p) H'
theorem ok_law_small (T : Txt P K mg) : FnOk P w K mg base CX0 4 T.f_law_small T.d_law_small ["pool", "most"] (sp_law_small K) := by
  have G_law_draw := (ok_law_draw (P := P) (w := w) (base := base) T).mono (by decide : 1 ≤ 3)
  have G_law_size := (ok_law_size (P := P) (w := w) (base := base) T).mono (by decide : 1 ≤ 3)
  have G_law_tier := ok_law_tier (P := P) (w := w) (base := base) T
  refine T.F_law_small.ok sc_law_small (fun vs H Q E h => ?_) (fun cdv A outer s H vs Q E hr h => ?_)
  · obtain ⟨a, n, most, rfl, _⟩ := h
    rfl
  obtain ⟨a, n, most, rfl, hS, hn, hm0, hm1, q⟩ := h
  refine ⟨_, (pss_cons (ps_par (i := 2) (j := 3) (by rfl) sc_law_small.nd rfl rfl (by decide) rfl rfl (pa_cons (pe_lst pa_nil) (pa_cons pe_int pa_nil)) (by rfl))
      (pss_cons (ps_for PassesOwn.never rfl (pi_range1 (by rfl) T.m_range (pa_cons (pe_call G_law_draw hr (by rfl) T.g_law_draw T.F_law_draw.kp T.b_law_draw .nil pass0 (pa_cons (pv 0) (pa_cons pe_int pa_nil))) pa_nil)) (pg_name (i := 4) sc_law_small.nd rfl (Or.inl rfl))
      (pss_cons (ps_set (i := 5) sc_law_small.nd rfl (Or.inl rfl) (pe_call G_law_tier hr (by rfl) T.g_law_tier T.F_law_tier.kp T.b_law_tier .nil pass0 (pa_cons (pv 0) (pa_cons (pe_ix ix_list (pe_lst (pa_cons pe_int (pa_cons pe_int (pa_cons pe_int pa_nil)))) (pe_call G_law_draw hr (by rfl) T.g_law_draw T.F_law_draw.kp T.b_law_draw .nil pass0 (pa_cons (pv 0) (pa_cons pe_int pa_nil))) (fun _ _ => rfl)) pa_nil))))
      (pss_one (ps_if (pt_cmpR op_le (pe_op op_mul (pv 3) (pe_call G_law_size hr (by rfl) T.g_law_size T.F_law_size.kp T.b_law_size .nil pass0 (pa_cons (pv 5) pa_nil))) (pv 1) (nomark _))
      (pss_cons (ps_expr (pe_bm PySem.F.plainAttrs_list PySem.F.slot_list_append PySem.F.type_list_append mt_append (pv 2) (pa_cons (pv 5) pa_nil)))
      (pss_one (ps_set (i := 3) sc_law_small.nd rfl (Or.inl rfl) (pe_op op_mul (pv 3) (pe_call G_law_size hr (by rfl) T.g_law_size T.F_law_size.kp T.b_law_size .nil pass0 (pa_cons (pv 5) pa_nil))))))
      pss_nil))))
      (pss_one (ps_ret (pv 2))))), ?_⟩
  refine ⟨Nat.zero_le _, fun p hp => ⟨_, _, rfl, ?_⟩⟩
  have np := hS.new1 hp
  have A1 : Rdv a 0 H (upd H p (.lst [])) := Rdv.of (same_new hp)
  have e1 : hid a a (upd H p (.lst [])) p = some (.lst []) := by rw [hid_oth np np, upd_same]
  have S1 := A1.src _ hS
  generalize upd H p (.lst []) = H1 at *
  refine ⟨_, rfl, a, _, 6, rfl, S1, by omega, lim (by decide) (by decide), fun H2 r2 A2 l2 u2 => ⟨_, rfl, by omega, by omega, ?_⟩⟩
  refine for_range (lo := 0) (n := r2.toNat) (fun i σ H' => ∃ us Ls y4 y5, σ = [some (.ref a), some (.int most), some (.ref p), some (.int (attOf Ls)), y4, y5] ∧ NestV H (hid a a H') p us Ls ∧ Ls.length ≤ i ∧ (∀ L ∈ Ls, L.nice ∧ L.cnt ≤ 30) ∧ attOf Ls ≤ most ∧ Rdv a (1 + 110 * i) H H')
    ⟨[], [], none, none, rfl, NestV.nil (A2.same _ _ e1), Nat.le_refl _, (fun _ z => nomatch z), hm0, (A1.trans A2 (Int.le_refl _)).mono (by omega)⟩ (fun i σ H3 hi h => ?_) (fun σ H3 h => ?_)
  · obtain ⟨us, Ls, y4, y5, rfl, hv, hlen, hnice, hatt, A3⟩ := h
    have S3 := A3.src n hS
    have lus : us.length ≤ i := by rw [hv.2.1]; exact hlen
    have hok : ∀ L ∈ Ls, L.ok = true := fun L hL => (hnice L hL).1.1
    have tpos := attOf_pos hok
    refine ⟨_, rfl, size_le (by show 3 ≤ 100000; decide), fun o ho => ?_⟩
    have no := S3.new1 ho
    have A4 : Rdv a 0 H3 (upd H3 o (.lst [.int 3, .int 6, .int 20])) := Rdv.of (same_new ho)
    have ho4 : hid a a (upd H3 o (.lst [.int 3, .int 6, .int 20])) o = some (.lst (([3, 6, 20] : List Int).map V.int)) := by
      rw [hid_oth no no, upd_same]
      rfl
    have S4 := A4.src _ S3
    generalize upd H3 o (.lst [.int 3, .int 6, .int 20]) = H4 at *
    refine ⟨_, rfl, a, _, 3, rfl, S4, by omega, lim (by decide) (by decide), fun H5 r5 A5 l5 u5 => ?_⟩
    obtain ⟨m1, hm1', _, hat1⟩ := at_int (ns := [3, 6, 20]) l5 u5
    have hm1b : 1 ≤ m1 ∧ m1 ≤ 30 := by simp at hm1'; omega
    have S5 := A5.src _ S4
    refine ⟨o, _, r5, .int m1, rfl, rfl, sql (hid_get (A5.same _ _ ho4)).1, hat1, a, _, m1, rfl, S5, by omega, by omega, by omega, fun H6 x L A6 f6 e6 n6 c6 => ?_⟩
    have B5 : Rdv a 1 H3 H5 := (A4.trans A5 (Int.le_refl _)).mono (by omega)
    have B6 : Rdv a 101 H3 H6 := (B5.trans A6 (Int.le_refl _)).mono (by omega)
    have xp : x ≠ p := fun z => by
      have := (hid_get (B5.same _ _ hv.1)).1
      rw [← z, f6] at this
      cases this
    have xH : H x = none := (A3.trans B5 (Int.le_refl _)).free hS f6
    have hv6 := hv.same B6.same
    have B7 : Rdv a (1 + 110 * (i + 1 : Nat)) H H6 := (A3.trans B6 (Int.le_refl _)).mono (by omega)
    have e6' : LayAt H6 (.ref x) L := by
      cases L with
      | pol ns => obtain ⟨y, e, z⟩ := e6; exact ⟨y, e, (hid_get z).1⟩
      | con c n => obtain ⟨y, e, z⟩ := e6; exact ⟨y, e, (hid_get z).1⟩
    have cp := LayAt.con_pos n6.1
    refine ⟨_, rfl, _, rfl, _, L, rfl, e6', _, _, rfl, rfl, .inl ⟨by omega, by omega⟩, _, rfl, _, _, rfl, rfl, _, rfl, ite2 (fun e => ?_) (fun e => ?_)⟩
    · have e' : attOf Ls * L.cnt ≤ most := of_decide_eq_true e
      refine ⟨_, rfl, .inl ⟨rfl, _, sql (hid_get hv6.1).1⟩, _, rfl, p, us, _, rfl, rfl, (hid_get hv6.1).1, size_lt (by omega), ?_⟩
      have e7 : LayAt (upd H6 p (.lst (us ++ [.ref x]))) (.ref x) L := e6'.keep fun y e => by cases e; exact xp
      refine ⟨_, rfl, _, rfl, _, L, rfl, e7, _, _, rfl, rfl, .inl ⟨by omega, by omega⟩, us ++ [.ref x], Ls ++ [L], _, _, by rw [attOf_snoc]; rfl, ?_, ?_, ?_, by rw [attOf_snoc]; exact e', B7.mut hS hp⟩
      · rw [hid_oth np np]
        exact hv6.push e6 xp xH
      · rw [List.length_append]
        exact Nat.succ_le_succ hlen
      · intro M hM
        rcases List.mem_append.mp hM with z | z
        · exact hnice M z
        · rw [List.mem_singleton.mp z]
          exact ⟨n6, by omega⟩
    · exact ⟨us, Ls, _, _, rfl, hv6, Nat.le_succ_of_le hlen, hnice, hatt, B7⟩
  · obtain ⟨us, Ls, y4, y5, rfl, hv, hlen, hnice, hatt, A3⟩ := h
    exact ⟨_, rfl, q H3 p us Ls (A3.mono (by omega)) hp hv (by omega) hnice hatt⟩

end
end Rn
namespace Rn
open PySem PySem.Spec PyProof.Rows L2
section
variable {P : Program} {w : World} {K : PySem.W.Frag} {mg : Str → Option Value} {base : Heap}
def sp_law_flat (K : PySem.W.Frag) : Sp := fun vs H Q _ => ∃ (a : Addr) (Ls : List Lay), vs = [.ref a] ∧ NestAt H a Ls ∧ (∀ L ∈ Ls, L.ok = true) ∧ Ls.length ≤ 5000 ∧ attOf Ls ≤ 20000 ∧
  ∀ H' r, Same H H' → H r = none → H' r = some (.lst ((flatL Ls).map V.int)) → Q (.ref r) H'
theorem ok_law_flat (T : Txt P K mg) : FnOk P w K mg base CX0 1 T.f_law_flat T.d_law_flat ["layers"] (sp_law_flat K) := by
  refine T.F_law_flat.ok sc_law_flat (fun vs H Q E h => ?_) (fun cdv A outer s H vs Q E hr h => ?_)
  · obtain ⟨a, Ls, rfl, _⟩ := h
    rfl
  obtain ⟨a, Ls, rfl, hN, hok, hz, hsz, k⟩ := h
  refine ⟨_, (pss_cons (ps_set (i := 1) sc_law_flat.nd rfl (Or.inl rfl) (pe_lst pa_nil))
      (pss_cons (ps_for PassesOwn.never rfl (pi_list (pv 0)) (pg_name (i := 2) sc_law_flat.nd rfl (Or.inl rfl))
      (pss_cons (ps_set (i := 3) sc_law_flat.nd rfl (Or.inl rfl) (pv 1))
      (pss_cons (ps_set (i := 4) sc_law_flat.nd rfl (Or.inl rfl) (pe_cutE (pe_ifExp (pt_val (pe_callB call_isi (by rfl) T.m_isinstance (by decide +kernel) (pa_cons (pv 2) (pa_cons (pe_bltn (v := .ty "tuple") (by rfl) T.m_tuple (by decide +kernel) rfl) pa_nil)))) (pe_op op_rep (pe_lst (pa_cons (pe_ix ix_tup (pv 2) pe_int (fun _ _ => rfl)) pa_nil)) (pe_op op_sub (pe_ix ix_tup (pv 2) pe_int (fun _ _ => rfl)) pe_int)) (pv 2))))
      (pss_one (ps_for PassesOwn.never rfl (pi_list (pv 4)) (pg_name (i := 5) sc_law_flat.nd rfl (Or.inl rfl))
      (pss_one (ps_set (i := 1) sc_law_flat.nd rfl (Or.inl rfl) (pe_op op_cat (pe_op op_cat (pv 1) (pe_lst (pa_cons (pv 5) pa_nil))) (pv 3)))))))))
      (pss_one (ps_ret (pv 1))))), ?_⟩
  have fl := flatL_len _ Ls rfl hok
  obtain ⟨vs, hv, hl, hat⟩ := id hN
  refine ⟨Nat.zero_le _, fun r hr' => ?_⟩
  refine ⟨_, rfl, a, rfl, ⟨vs, sql ((same_new hr') _ _ hv)⟩, for_list (xs := vs) (fun i σ H' => ∃ f y2 y3 y4 y5, σ = [some (.ref a), some (.ref f), y2, y3, y4, y5] ∧ Same H H' ∧ H f = none ∧ H' f = some (.lst ((flatL (Ls.take i)).map V.int)))
    ⟨r, none, none, none, none, rfl, same_new hr', hr', upd_same⟩ (fun i σ H' _ h => by obtain ⟨_, _, _, _, _, _, sm, _⟩ := h; exact sql (sm _ _ hv)) (fun i x σ H' hx h => ?_) (fun σ H' h => ?_)⟩
  · obtain ⟨f, y2, y3, y4, y5, rfl, sm, hf, hff⟩ := h
    have hi : i < Ls.length := by
      rw [← hl]
      exact (List.getElem?_eq_some_iff.mp hx).1
    have hi' := List.getElem?_eq_getElem hi
    have hLx := (hat i x _ hx hi').same sm
    have hmem := List.getElem_mem hi
    have h1 := hok _ hmem
    have h3 := LayAt.con_pos h1
    have et : Ls.take (i + 1) = Ls.take i ++ [Ls[i]] := by
      rw [List.take_add_one, hi']
      rfl
    have ot : ∀ j, ∀ L ∈ Ls.take j, L.ok = true := fun j L hL => hok L (List.mem_of_mem_take hL)
    have hfl : flatL (Ls.take (i + 1)) = nestL (flatL (Ls.take i)) Ls[i].waits := by
      rw [flatL_fold (ot (i + 1)), flatL_fold (ot i), et, List.foldl_append]
      rfl
    have hlen : ((flatL (Ls.take (i + 1))).length : Int) + 1 ≤ 20000 := by
      rw [flatL_len _ _ rfl (ot (i + 1))]
      have := (attOf_part (Ls.take (i + 1)) (Ls.drop (i + 1)) (fun L hL => hok L (List.mem_of_mem_drop hL)) (ot (i + 1))).2
      rw [List.take_append_drop] at this
      omega
    rw [hfl] at hlen
    rw [hfl]
    have hnl := nestL_len (flatL (Ls.take i)) Ls[i].waits
    have hcl := cnt_le hok hmem
    generalize flatL (Ls.take i) = fs at *
    generalize Ls[i] = L at *
    -- run = found
    refine ⟨_, rfl, ?_⟩
    refine ⟨fun v H2 => ∃ q, v = .ref q ∧ Same H' H2 ∧ H2 q = some (.lst (L.waits.map V.int)), ?_, fun v H2 h => ?_⟩
    · cases L with
      | con wt n =>
        obtain ⟨p, rfl, hp⟩ := hLx
        have hc : (Lay.con wt n).cnt = n := rfl
        rw [hc] at h3 hcl
        refine ⟨_, rfl, _, _, _, _, true, rfl, .ty "tuple", .base (.tup hp), kit_ty (by decide +kernel), true, rfl, iteT ?_⟩
        refine ⟨_, rfl, p, _, 0, _, rfl, rfl, sqt hp, rfl, size_le (by show 1 ≤ 100000; decide), fun o ho => ?_⟩
        have so := same_new (o := .lst [.int wt]) ho
        refine ⟨_, rfl, p, _, 1, _, rfl, rfl, sqt (so _ _ hp), rfl, _, _, rfl, rfl, o, n - 1, _, rfl, rfl, upd_same, by omega, by omega, size_le (by show 1 * (n - 1).toNat ≤ 100000; omega), fun q hq => ?_⟩
        rw [rep_flat]
        refine ⟨q, rfl, so.trans (same_new hq), ?_⟩
        rw [upd_same]
        show _ = some (HO.lst ((List.replicate (n - 1).toNat wt).map V.int))
        rw [List.map_replicate]
      | pol ns =>
        obtain ⟨p, rfl, hp⟩ := hLx
        exact ⟨_, rfl, _, _, _, _, false, rfl, .ty "tuple", .base (.lst hp), kit_ty (by decide +kernel), false, rfl, iteF ⟨_, rfl, p, rfl, Same.refl _, hp⟩⟩
    · obtain ⟨q, rfl, sm2, hq⟩ := h
      -- for wait in waits
      refine ⟨_, rfl, q, rfl, ⟨_, sql hq⟩, for_list (xs := L.waits.map V.int) (fun j σ H3 => ∃ g y2 y5, σ = [some (.ref a), some (.ref g), y2, some (.ref f), some (.ref q), y5] ∧ Same H2 H3 ∧ H g = none ∧ H3 g = some (.lst ((nestL fs (L.waits.take j)).map V.int)))
        ⟨f, _, _, rfl, Same.refl _, hf, by rw [List.take_zero, nestL_nil]; exact sm2 _ _ hff⟩ (fun j σ H3 _ h => by obtain ⟨_, _, _, _, sm3, _⟩ := h; exact sql (sm3 _ _ hq)) (fun j x σ H3 hx h => ?_) (fun σ H3 h => ?_)⟩
      · obtain ⟨g, y2, y5, rfl, sm3, hg, hgg⟩ := h
        rw [List.getElem?_map] at hx
        obtain ⟨c, hc, rfl⟩ := Option.map_eq_some_iff.mp hx
        have hj := (List.getElem?_eq_some_iff.mp hc).1
        have nl := nestL_len fs (L.waits.take j)
        rw [List.length_take, Nat.min_eq_left (Nat.le_of_lt hj)] at nl
        have e2 : (fs.length + 1) * (j + 1) + (fs.length + 1) ≤ (fs.length + 1) * (L.waits.length + 1) := by
          rw [← Nat.mul_succ]
          exact Nat.mul_le_mul_left _ (by omega)
        refine ⟨_, rfl, _, rfl, size_le (by show 1 ≤ 100000; decide), fun o ho => ?_⟩
        have so := same_new (o := .lst [.int c]) ho
        refine ⟨g, o, _, _, rfl, rfl, so _ _ hgg, upd_same, size_le (by rw [List.length_map]; show _ + 1 ≤ 100000; omega), fun u hu => ?_⟩
        have su := so.trans (same_new (o := .lst ((nestL fs (L.waits.take j)).map V.int ++ [.int c])) hu)
        refine ⟨_, rfl, u, f, _, _, rfl, rfl, upd_same, su _ _ (sm3 _ _ (sm2 _ _ hff)), size_le (by rw [List.length_append, List.length_map, List.length_map]; show _ + 1 + _ ≤ 100000; omega), fun v hv' => ?_⟩
        have smv := (sm.trans sm2).trans ((sm3.trans su))
        refine ⟨v, _, _, rfl, (sm3.trans su).trans (same_new hv'), smv.free hv', ?_⟩
        rw [upd_same, List.take_add_one, hc]
        unfold nestL
        simp [List.flatMap_append, List.append_assoc]
      · obtain ⟨g, y2, y5, rfl, sm3, hg, hgg⟩ := h
        rw [List.length_map, List.take_length] at hgg
        exact ⟨g, _, _, _, _, rfl, (sm.trans sm2).trans sm3, hg, hgg⟩
  · obtain ⟨f, y2, y3, y4, y5, rfl, sm, hf, hff⟩ := h
    rw [hl, List.take_length] at hff
    exact ⟨_, rfl, k H' f sm hf hff⟩

end
end Rn
namespace Rn
open PySem PySem.Spec PyProof.Rows L2
section
variable {P : Program} {w : World} {K : PySem.W.Frag} {mg : Str → Option Value} {base : Heap}
def sp_law_near (K : PySem.W.Frag) : Sp := fun vs H Q _ => ∃ (x : Int), vs = [.int x] ∧ 0 ≤ x ∧ x < 1000000000000 ∧ ∀ u : Int, 0 ≤ u → u < 1000000000000 → u ≠ x → Q (.int u) H
theorem ok_law_near (T : Txt P K mg) : FnOk P w K mg base CX0 1 T.f_law_near T.d_law_near ["wait"] (sp_law_near K) := by
  refine T.F_law_near.ok sc_law_near (fun vs H Q E h => ?_) (fun cdv A outer s H vs Q E hr h => ?_)
  · obtain ⟨x, rfl, _⟩ := h
    rfl
  obtain ⟨x, rfl, x0, x1, q⟩ := h
  refine ⟨_, (pss_one (ps_ret (pe_ifExp (pt_cmpR op_gt (pv 0) pe_int (nomark _)) (pe_op op_sub (pv 0) pe_int) pe_int))), ?_⟩
  refine ⟨_, rfl, _, _, rfl, rfl, _, rfl, ite2 (fun e => ?_) (fun e => ?_)⟩
  · have := of_decide_eq_true e
    exact ⟨_, rfl, _, _, rfl, rfl, q _ (by omega) (by omega) (by omega)⟩
  · have := of_decide_eq_false (Bool.eq_false_iff.mpr e)
    exact q _ (by decide) (by decide) (by omega)

end
end Rn
namespace Rn
open PySem PySem.Spec PyProof.Rows L2
section
variable {P : Program} {w : World} {K : PySem.W.Frag} {mg : Str → Option Value} {base : Heap}
def RwI (H : Hp) (a q : Addr) (way c : Int) (l1 l2 : Nat) (t t0 : Int) (σ : L2.St) (H' : Hp) : Prop := ∃ (f : Addr) (ws : List V) (Ms : List Lay) (y4 y5 y6 : Option V), σ = [some (.ref a), some (.ref q), some (.ref f), some (.int way), y4, y5, y6] ∧ Rdv a c H H' ∧ H f = none ∧ hid a a H' f = some (.lst ws) ∧ Lays (hid a a H') ws Ms ∧
  (∀ x, V.ref x ∈ ws → x ≠ f) ∧ (∀ L ∈ Ms, L.nice ∧ L.cnt ≤ 30) ∧ Ms.length ≤ l1 ∧ (way ≠ 0 → Ms.length ≤ l2) ∧ attOf Ms ≤ t ∧ t0 ≤ attOf Ms
def asPol : Lay → Lay
  | .con w n => .pol (List.replicate (n - 1).toNat w)
  | L => L
theorem asPol_nice {L : Lay} (h : L.nice ∧ L.cnt ≤ 30) : (asPol L).nice ∧ (asPol L).cnt ≤ 30 := by
  cases L with
  | pol ns => exact h
  | con w n =>
    obtain ⟨⟨ok, h1, h2⟩, h3⟩ := h
    have c1 := LayAt.con_pos ok
    have c0 : (Lay.con w n).cnt = n := rfl
    rw [c0] at c1 h3
    rw [Lay.ok_con, Bool.and_eq_true] at ok
    have w0 := of_decide_eq_true ok.1
    refine ⟨Lay.nice_pol (by rw [List.length_replicate]; omega) (fun x hx => by rw [(List.mem_replicate.mp hx).2]; exact ⟨w0, h1⟩), ?_⟩
    show ((List.replicate (n - 1).toNat w).length : Int) + 1 ≤ 30
    rw [List.length_replicate]
    omega
theorem asPol_cnt {L : Lay} (h : L.ok = true) : (asPol L).cnt = L.cnt := by
  cases L with
  | pol ns => rfl
  | con w n =>
    have c1 := LayAt.con_pos h
    have c0 : (Lay.con w n).cnt = n := rfl
    rw [c0] at c1
    show ((List.replicate (n - 1).toNat w).length : Int) + 1 = n
    rw [List.length_replicate]
    omega
theorem asPol_att {Ms : List Lay} (h : ∀ L ∈ Ms, L.ok = true) : attOf (Ms.map asPol) = attOf Ms := attOf_same (by
  rw [List.map_map]
  exact List.map_congr_left fun L hL => asPol_cnt (h L hL))
def sp_law_rewritten (K : PySem.W.Frag) : Sp := fun vs H Q _ => ∃ (a q : Addr) (n : Int) (Ls : List Lay), vs = [.ref a, .ref q] ∧ Rng H a n ∧ n ≤ 1000000 ∧ NestAt (hid a a H) q Ls ∧ (∀ L ∈ Ls, L.nice ∧ L.cnt ≤ 30) ∧ Ls.length ≤ 4 ∧ attOf Ls ≤ 200 ∧
  ∀ H' r Ms, Rdv a 20 H H' → NestAt (hid a a H') r Ms → (∀ L ∈ Ms, L.nice) → Ms.length ≤ 6 → attOf Ms ≤ 1200 → attOf Ls ≤ attOf Ms → Q (.ref r) H'
theorem ok_law_rewritten (T : Txt P K mg) : FnOk P w K mg base CX0 2 T.f_law_rewritten T.d_law_rewritten ["pool", "layers"] (sp_law_rewritten K) := by
  have G_law_draw := (ok_law_draw (P := P) (w := w) (base := base) T)
  have G_law_flat := (ok_law_flat (P := P) (w := w) (base := base) T)
  have G_law_near := (ok_law_near (P := P) (w := w) (base := base) T)
  refine T.F_law_rewritten.ok sc_law_rewritten (fun vs H Q E h => ?_) (fun cdv A outer s H vs Q E hr h => ?_)
  · obtain ⟨a, q, n, Ls, rfl, _⟩ := h
    rfl
  obtain ⟨a, q, n, Ls, rfl, hS, hn, hN, nice, hl, ha, k⟩ := h
  refine ⟨_, (pss_cons (ps_set (i := 2) sc_law_rewritten.nd rfl (Or.inl rfl) (pe_callTy call_list_of (by rfl) T.m_list (by decide +kernel) (pa_cons (pv 1) pa_nil)))
      (pss_cons (ps_set (i := 3) sc_law_rewritten.nd rfl (Or.inl rfl) (pe_call G_law_draw hr (by rfl) T.g_law_draw T.F_law_draw.kp T.b_law_draw .nil pass0 (pa_cons (pv 0) (pa_cons pe_int pa_nil))))
      (Evl.pss_cut (ps_if (pt_cmpR op_eq (pv 3) pe_int (nomark _))
      (pss_one (ps_expr (pe_bm PySem.F.plainAttrs_list PySem.F.slot_list_insert PySem.F.type_list_insert mt_insert (pv 2) (pa_cons (pe_call G_law_draw hr (by rfl) T.g_law_draw T.F_law_draw.kp T.b_law_draw .nil pass0 (pa_cons (pv 0) (pa_cons (pe_op op_add (pe_callB call_len_seq (by rfl) T.m_len PySem.boot_len (pa_cons (pv 2) pa_nil)) pe_int) pa_nil))) (pa_cons (pe_ix ix_list (pe_lst (pa_cons (pe_lst pa_nil) (pa_cons (pe_tup (pa_cons pe_int (pa_cons pe_int pa_nil))) pa_nil))) (pe_call G_law_draw hr (by rfl) T.g_law_draw T.F_law_draw.kp T.b_law_draw .nil pass0 (pa_cons (pv 0) (pa_cons pe_int pa_nil))) (fun _ _ => rfl)) pa_nil)))))
      pss_nil)
      (Evl.pss_cut (ps_if (PW.pt (pw_and (pt_cmpR op_eq (pv 3) pe_int (nomark _)) (pw_and1 (pt_cmpR op_le (pe_callB call_len_seq (by rfl) T.m_len PySem.boot_len (pa_cons (pe_call G_law_flat hr (by rfl) T.g_law_flat T.F_law_flat.kp T.b_law_flat .nil pass0 (pa_cons (pv 1) pa_nil)) pa_nil)) pe_int (nomark _)))))
      (pss_one (ps_ret (pe_lst (pa_cons (pe_call G_law_flat hr (by rfl) T.g_law_flat T.F_law_flat.kp T.b_law_flat .nil pass0 (pa_cons (pv 1) pa_nil)) pa_nil))))
      pss_nil)
      (Evl.pss_cut (ps_if (pt_cmpR op_eq (pv 3) pe_int (nomark _))
      (pss_one (ps_setLc (i := 2) (own := [("tier", 5)]) (g := gName 5) (tt := tYes) rfl sc_law_rewritten.nd rfl rfl (sw_true rfl rfl rfl (by decide +kernel)) (pi_list (pv 2)) (blkOk_by (N := ["pool", "layers", "found", "way", "spot", "tier", "part"]) (sc := defScope s_law_rewritten) (by decide +kernel)) (fun _ _ _ _ _ => (pg_name (i := 5) sc_law_rewritten.nd rfl (Or.inl rfl))) (fun _ _ _ _ _ => pts_nil) (fun _ _ _ _ _ => (pe_ifExp (pt_val (pe_callB (call_isiK1 (K := K) rfl) (by rfl) T.m_isinstance (by decide +kernel) (pa_cons (pv 5) (pa_cons (pe_bltn (v := .ty "tuple") (by rfl) T.m_tuple (by decide +kernel) rfl) pa_nil)))) (pe_op op_rep (pe_lst (pa_cons (pe_ix (ix_tupK (K := K) rfl) (pv 5) pe_int (fun _ _ => rfl)) pa_nil)) (pe_op op_sub (pe_ix (ix_tupK (K := K) rfl) (pv 5) pe_int (fun _ _ => rfl)) pe_int)) (pv 5)))))
      pss_nil)
      (Evl.pss_cut (ps_if (pt_cmpR op_eq (pv 3) pe_int (nomark _))
      (pss_one (ps_set (i := 2) sc_law_rewritten.nd rfl (Or.inl rfl) (pe_op op_cat (pv 2) (pe_lst (pa_cons (pe_tup (pa_cons pe_int (pa_cons pe_int pa_nil))) (pa_cons (pe_tup (pa_cons pe_int (pa_cons pe_int pa_nil))) pa_nil))))))
      pss_nil)
      (Evl.pss_cut (ps_if (PW.pt (pw_and (pt_cmpR op_gt (pv 3) pe_int (nomark _)) (pw_and1 (pt_cmpR (op_neD hr.units) (pv 2) (pe_lst pa_nil) (nomark _)))))
      (pss_cons (ps_set (i := 4) sc_law_rewritten.nd rfl (Or.inl rfl) (pe_call G_law_draw hr (by rfl) T.g_law_draw T.F_law_draw.kp T.b_law_draw .nil pass0 (pa_cons (pv 0) (pa_cons (pe_callB call_len_seq (by rfl) T.m_len PySem.boot_len (pa_cons (pv 2) pa_nil)) pa_nil))))
      (pss_cons (ps_set (i := 5) sc_law_rewritten.nd rfl (Or.inl rfl) (pe_ix ix_list (pv 2) (pv 4) (fun _ _ => rfl)))
      (pss_one (ps_if (pt_val (pe_callB call_isi (by rfl) T.m_isinstance (by decide +kernel) (pa_cons (pv 5) (pa_cons (pe_bltn (v := .ty "tuple") (by rfl) T.m_tuple (by decide +kernel) rfl) pa_nil))))
      (pss_one (ps_asg (pe_tup (pa_cons (pe_call G_law_near hr (by rfl) T.g_law_near T.F_law_near.kp T.b_law_near .nil pass0 (pa_cons (pe_ix ix_tup (pv 5) pe_int (fun _ _ => rfl)) pa_nil)) (pa_cons (pe_ix ix_tup (pv 5) pe_int (fun _ _ => rfl)) pa_nil))) (pg_sub (pv 2) (pv 4) set_list)))
      (pss_one (ps_if (pt_cmpR (op_neD hr.units) (pv 5) (pe_lst pa_nil) (nomark _))
      (pss_cons (ps_set (i := 6) sc_law_rewritten.nd rfl (Or.inl rfl) (pe_call G_law_draw hr (by rfl) T.g_law_draw T.F_law_draw.kp T.b_law_draw .nil pass0 (pa_cons (pv 0) (pa_cons (pe_callB call_len_seq (by rfl) T.m_len PySem.boot_len (pa_cons (pv 5) pa_nil)) pa_nil))))
      (pss_cons (ps_asg (pe_callTy call_list_of (by rfl) T.m_list (by decide +kernel) (pa_cons (pv 5) pa_nil)) (pg_sub (pv 2) (pv 4) set_list))
      (pss_one (ps_asg (pe_call G_law_near hr (by rfl) T.g_law_near T.F_law_near.kp T.b_law_near .nil pass0 (pa_cons (pe_ix ix_list (pv 5) (pv 6) (fun _ _ => rfl)) pa_nil)) (pg_sub (pe_ix ix_list (pv 2) (pv 4) (fun _ _ => rfl)) (pv 6) set_list)))))
      pss_nil))))))
      pss_nil)
      (pss_one (ps_ret (pv 2)))))))))), ?_⟩
  obtain ⟨us, hb, hus, hat⟩ := id hN
  have lay : Lays (hid a a H) us Ls := ⟨hus, hat⟩
  refine ⟨_, rfl, q, us, rfl, .inl (sql (hid_get hb).1), fun p hp => ?_⟩
  have np := hS.new1 hp
  have A1 : Rdv a 0 H (upd H p (.lst us)) := Rdv.of (same_new hp)
  have e1 : hid a a (upd H p (.lst us)) p = some (.lst us) := by rw [hid_oth np np, upd_same]
  have usp : ∀ x, V.ref x ∈ us → x ≠ p := fun x hx z => by
    obtain ⟨y, o, e, ho⟩ := lay.ref hx
    cases e
    rw [z] at ho
    rw [(hid_get ho).1] at hp
    cases hp
  generalize upd H p (.lst us) = H1 at *
  have S1 := A1.src _ hS
  refine ⟨_, rfl, a, _, 6, rfl, S1, by omega, lim (by decide) (by decide), fun H2 way A2 w0 w1 => ?_⟩
  have first : RwI H a q way 1 4 4 200 (attOf Ls) [some (.ref a), some (.ref q), some (.ref p), some (.int way), none, none, none] H2 :=
    ⟨p, us, Ls, _, _, _, rfl, (A1.trans A2 (Int.le_refl _)).mono (by omega), hp, A2.same _ _ e1, (lay.same A1.same).same A2.same, usp, nice, hl, fun _ => hl, ha, Int.le_refl _⟩
  -- way == 0
  refine ⟨RwI H a q way 5 5 4 200 (attOf Ls), ?_, fun σ' H' h => ?_⟩
  · obtain ⟨f, ws, Ms, y4, y5, y6, es, A3, hf, e3, l3, wf, nm, m1, m2, m3⟩ := first
    obtain rfl : p = f := by injection es with _ es; injection es with _ es; injection es with es _; injection es with es; injection es
    refine ⟨_, rfl, rfl, _, rfl, int_eq (fun e => ?_) (fun e => ?_)⟩
    · have S3 := A3.src _ hS
      refine ⟨_, rfl, .inl ⟨rfl, _, sql (hid_get e3).1⟩, _, rfl, _, rfl, p, ws, rfl, .inl (sql (hid_get e3).1), _, _, rfl, rfl, a, _, ws.length + 1, rfl, S3, by omega, lim (by omega) (by have := l3.1; omega), fun H3 r3 A4 l4 u4 => ?_⟩
      have S4 := A4.src _ S3
      refine ⟨Nat.zero_le _, fun t1 h1 => ?_⟩
      have q1 := upd_same (H := H3) (a := t1) (o := .lst [])
      have s1 := same_new (o := .lst []) h1
      generalize upd H3 t1 (.lst []) = G1 at *
      refine ⟨size_le (by show 2 ≤ 100000; decide), fun t2 h2 => ?_⟩
      have q2 := upd_same (H := G1) (a := t2) (o := .tup [.int 7, .int 1])
      have s2 := same_new (o := .tup [.int 7, .int 1]) h2
      generalize upd G1 t2 (.tup [.int 7, .int 1]) = G2 at *
      refine ⟨size_le (by show 2 ≤ 100000; decide), fun m hmm => ?_⟩
      have em := upd_same (H := G2) (a := m) (o := .lst [.ref t1, .ref t2])
      have sm := same_new (o := .lst [.ref t1, .ref t2]) hmm
      generalize upd G2 m (.lst [.ref t1, .ref t2]) = G3 at *
      have s13 := s1.trans (s2.trans sm)
      have S5 := S4.same s13
      have t1a := S4.new1 h1
      have t2a := S4.new1 (s1.free h2)
      have t1p : t1 ≠ p := fun z => by have := (hid_get (A4.same _ _ e3)).1; rw [← z, h1] at this; cases this
      have t2p : t2 ≠ p := fun z => by have := (hid_get (A4.same _ _ e3)).1; rw [← z, s1.free h2] at this; cases this
      refine ⟨_, rfl, a, _, 2, rfl, S5, by omega, lim (by decide) (by decide), fun G4 r5 A5 l5 u5 => ?_⟩
      have s03 : Same (hid a a H2) (hid a a G4) := A4.same.trans ((hid_same s13).trans A5.same)
      obtain ⟨y, L, hy, ly, cy, nL, yp⟩ : ∃ y L, atI [V.ref t1, V.ref t2] r5 = some (.ref y) ∧ LayAt (hid a a G4) (.ref y) L ∧ L.cnt = 1 ∧ (L.nice ∧ L.cnt ≤ 30) ∧ y ≠ p := by
        obtain rfl | rfl : r5 = 0 ∨ r5 = 1 := by omega
        · exact ⟨t1, .pol [], rfl, ⟨t1, rfl, A5.same _ _ (hid_at ((s2.trans sm) _ _ q1) t1a t1a)⟩, rfl, ⟨Lay.nice_pol (by decide) (fun _ z => nomatch z), by decide⟩, t1p⟩
        · exact ⟨t2, .con 7 1, rfl, ⟨t2, rfl, A5.same _ _ (hid_at (sm _ _ q2) t2a t2a)⟩, rfl, ⟨Lay.nice_con (by decide) (by decide) (by decide) (by decide), by decide⟩, t2p⟩
      have e5 := s03 _ _ e3
      have l5' := l3.same s03
      have nb : ∀ x, V.ref x ∈ ws.take r3.toNat ++ [V.ref y] ++ ws.drop r3.toNat → x ≠ p := fun x hx => by
        rcases List.mem_append.mp hx with z | z
        · rcases List.mem_append.mp z with z | z
          · exact wf x (List.mem_of_mem_take z)
          · have := List.mem_singleton.mp z
            injection this with this
            rw [this]
            exact yp
        · exact wf x (List.mem_of_mem_drop z)
      have lall := ((l5'.take r3.toNat).app (.cons ly (Lays.none _))).app (l5'.drop r3.toNat)
      have A6 := A3.trans (A4.trans ((Rdv.of s13).trans A5 (Int.le_refl _)) (Int.le_refl _)) (Int.le_refl _)
      refine ⟨m, _, r5, .ref y, rfl, rfl, sql (hid_get (A5.same _ _ (hid_at em (S4.new1 ((s1.trans s2).free hmm)) (S4.new1 ((s1.trans s2).free hmm))))).1, hy, p, ws, r3, .ref y, rfl, rfl, (hid_get e5).1, size_lt (by have := l3.1; omega), l4, by have := l3.1; omega, p, _, Ms.take r3.toNat ++ [L] ++ Ms.drop r3.toNat, none, none, none, rfl, (A6.mut hS hp).mono (by omega), hp, by rw [hid_oth np np, upd_same], ?_, nb, ?_, ?_, fun z => absurd e z, ?_⟩
      · rw [hid_oth np np]
        exact lall.carry fun x o hx ho => by rw [upd_ne (nb x hx)]; exact ho
      · intro M hM
        rcases List.mem_append.mp hM with z | z
        · rcases List.mem_append.mp z with z | z
          · exact nm M (List.mem_of_mem_take z)
          · rw [List.mem_singleton.mp z]
            exact nL
        · exact nm M (List.mem_of_mem_drop z)
      · rw [List.length_append, List.length_append, List.length_take, List.length_drop]
        show min r3.toNat Ms.length + 1 + _ ≤ 5
        omega
      · have e2 : attOf (Ms.take r3.toNat ++ [L] ++ Ms.drop r3.toNat) = attOf Ms := by
          rw [attOf_app, attOf_snoc, cy, Int.mul_one, ← attOf_app, List.take_append_drop]
        rw [e2]
        exact m3
    · exact ⟨p, ws, Ms, none, none, none, rfl, A3.mono (by omega), hf, e3, l3, wf, nm, by omega, m2, m3⟩
  have ok0 : ∀ L ∈ Ls, L.ok = true := fun L hL => (nice L hL).1.1
  -- way == 1
  refine ⟨RwI H a q way 5 5 4 200 (attOf Ls), ?_, fun σ' H3 h => ?_⟩
  · obtain ⟨f, ws, Ms, y4, y5, y6, rfl, A3, hf, e3, l3, wf, nm, m1, m2, m3⟩ := h
    refine ⟨_, rfl, rfl, _, rfl, int_eq (fun e => ?_) (fun _ => ⟨f, ws, Ms, y4, y5, y6, rfl, A3, hf, e3, l3, wf, nm, m1, m2, m3⟩)⟩
    refine ⟨_, rfl, q, Ls, rfl, nest_hid (hN.same A3.same), ok0, by omega, by omega, fun H4 r4 s4 f4 e4 => ⟨r4, _, rfl, .inl (sql e4), _, _, rfl, rfl, _, rfl, ite2 (fun e5 => ?_) (fun _ => ?_)⟩⟩
    · have e5 := of_decide_eq_true e5
      rw [List.length_map] at e5
      refine ⟨_, rfl, q, Ls, rfl, (nest_hid (hN.same A3.same)).same s4, ok0, by omega, by omega, fun H5 r5 s5 f5 e6 => ⟨size_le (by show 1 ≤ 100000; decide), fun o ho => ?_⟩⟩
      have so := same_new (o := .lst [.ref r5]) ho
      have S3 := A3.src _ hS
      have s45 := s4.trans s5
      have r5a := (S3.same s4).new1 f5
      have oa := (S3.same s45).new1 ho
      have fw := flat_nice Ls fun L hL => (nice L hL).1
      have nP : (Lay.pol (flatL Ls)).nice := Lay.nice_pol (by omega) fw
      refine k _ o [.pol (flatL Ls)] ((A3.trans (Rdv.of (s45.trans so)) (Int.le_refl _)).mono (by omega)) ?_ (fun M hM => by rw [List.mem_singleton.mp hM]; exact nP) (by show 1 ≤ 6; decide) ?_ ?_
      · exact (Lays.cons (v := .ref r5) (L := .pol (flatL Ls)) ⟨r5, rfl, hid_at (so _ _ e6) r5a r5a⟩ (Lays.none _)).nest (hid_at upd_same oa oa)
      · show 1 * (((flatL Ls).length : Int) + 1) ≤ 1200
        omega
      · show attOf Ls ≤ 1 * (((flatL Ls).length : Int) + 1)
        have := flatL_len _ Ls rfl ok0
        omega
    · exact ⟨f, ws, Ms, y4, y5, y6, rfl, (A3.trans (Rdv.of s4) (Int.le_refl _)).mono (by omega), hf, hid_same s4 _ _ e3, l3.same (hid_same s4), wf, nm, m1, m2, m3⟩
  -- way == 2
  refine ⟨RwI H a q way 5 5 4 200 (attOf Ls), ?_, fun σ' H4 h => ?_⟩
  · obtain ⟨f, ws, Ms, y4, y5, y6, rfl, A3, hf, e3, l3, wf, nm, m1, m2, m3⟩ := h
    refine ⟨_, rfl, rfl, _, rfl, int_eq (fun e => ?_) (fun _ => ⟨f, ws, Ms, y4, y5, y6, rfl, A3, hf, e3, l3, wf, nm, m1, m2, m3⟩)⟩
    have S3 := A3.src _ hS
    refine ⟨_, rfl, f, rfl, ⟨ws, sql (hid_get e3).1⟩, fun D hD => ?_⟩
    have Da := S3.new1 hD
    have DH : H D = none := A3.free hS hD
    have wD : ∀ x, V.ref x ∈ ws → x ≠ D := fun x hx z => by
      obtain ⟨y, o, e, ho⟩ := l3.ref hx
      cases e
      rw [z] at ho
      rw [(hid_get ho).1] at hD
      cases hD
    refine lc_list (K := K) (xs := ws) (fun i H' => Same H3 H' ∧ ∃ zs, H' D = some (.lst zs) ∧ Lays (hid a a H') zs ((Ms.take i).map asPol) ∧ ∀ x, V.ref x ∈ zs → x ≠ D)
      ⟨same_new hD, [], upd_same, Lays.none _, (fun _ z => nomatch z)⟩ (fun i H' _ h => sql (h.1 _ _ (hid_get e3).1)) (fun i v H5 hx h => ?_) (fun H5 h => ?_)
    · obtain ⟨sm, zs, eD, lz, zD⟩ := h
      have hi : i < Ms.length := by
        rw [← l3.1]
        exact (List.getElem?_eq_some_iff.mp hx).1
      have hi' := List.getElem?_eq_getElem hi
      have et : Ms.take (i + 1) = Ms.take i ++ [Ms[i]] := by
        rw [List.take_add_one, hi']
        rfl
      have hL := (l3.2 i v _ hx hi').same (hid_same sm)
      have nL := nm _ (List.getElem_mem hi)
      have lzs : zs.length ≤ 5 := by rw [lz.1, List.length_map, List.length_take]; omega
      have S5 := S3.same sm
      generalize Ms[i] = L at *
      rw [et]
      have done : ∀ (y : Addr) (H6 : Hp), Same H5 H6 → LayAt (hid a a H6) (.ref y) (asPol L) → y ≠ D → H6 D = some (.lst zs) → (Same H3 (upd H6 D (.lst (zs ++ [.ref y]))) ∧ ∃ zs', upd H6 D (.lst (zs ++ [.ref y])) D = some (.lst zs') ∧ Lays (hid a a (upd H6 D (.lst (zs ++ [.ref y])))) zs' ((Ms.take i ++ [L]).map asPol) ∧ ∀ x, V.ref x ∈ zs' → x ≠ D) := fun y H6 s6 hy yD e6 => by
        have nb : ∀ x, V.ref x ∈ zs ++ [V.ref y] → x ≠ D := fun x hx => (List.mem_append.mp hx).elim (zD x) fun z => by
          have := List.mem_singleton.mp z
          injection this with this
          rw [this]
          exact yD
        refine ⟨same_keep (sm.trans s6) hD, _, upd_same, ?_, nb⟩
        rw [hid_oth Da Da, List.map_append]
        exact ((lz.same (hid_same s6)).app (.cons hy (Lays.none _))).carry fun x o hx ho => by rw [upd_ne (nb x hx)]; exact ho
      cases L with
      | con wt m =>
        obtain ⟨x, rfl, hp⟩ := hL
        have hp := (hid_get hp).1
        refine ⟨rfl, _, rfl, _, _, _, _, true, rfl, .ty "tuple", .base (.tup hp), kit_ty (by decide +kernel), true, rfl, iteT ?_⟩
        refine ⟨_, rfl, x, _, 0, _, rfl, rfl, sqt hp, rfl, size_le (by show 1 ≤ 100000; decide), fun t1 h1 => ?_⟩
        have q1 := upd_same (H := H5) (a := t1) (o := .lst [.int wt])
        have s1 := same_new (o := .lst [.int wt]) h1
        generalize upd H5 t1 (.lst [.int wt]) = H6 at *
        obtain ⟨⟨okL, _, _⟩, h30⟩ := id nL
        have c1 := LayAt.con_pos okL
        have c0 : (Lay.con wt m).cnt = m := rfl
        rw [c0] at c1 h30
        have i0 : -(2 ^ 63) ≤ m - 1 := by have : (-(2 ^ 63) : Int) ≤ 0 := by decide
                                          omega
        have i1 : m - 1 < 2 ^ 63 := by have : (100 : Int) < 2 ^ 63 := by decide
                                       omega
        refine ⟨_, rfl, x, _, 1, _, rfl, rfl, sqt (s1 _ _ hp), rfl, _, _, rfl, rfl, t1, m - 1, _, rfl, rfl, q1, i0, i1, size_le (by show 1 * (m - 1).toNat ≤ 100000; omega), fun t2 h2 => ?_⟩
        have s2 := same_new (o := .lst (List.replicate (m - 1).toNat [V.int wt]).flatten) h2
        have q2 := upd_same (H := H6) (a := t2) (o := .lst (List.replicate (m - 1).toNat [V.int wt]).flatten)
        generalize hG : upd H6 t2 (.lst (List.replicate (m - 1).toNat [V.int wt]).flatten) = H7 at *
        have er : (List.replicate (m - 1).toNat [V.int wt]).flatten = (List.replicate (m - 1).toNat wt).map V.int := by rw [List.flatten_replicate_singleton, List.map_replicate]
        rw [er] at q2
        have s12 := s1.trans s2
        have t2a := (S5.same s1).new1 h2
        have t2D : t2 ≠ D := fun z => by have := s1 _ _ eD; rw [← z, h2] at this; cases this
        exact ⟨zs, s12 _ _ eD, size_lt (by omega), done t2 H7 s12 ⟨t2, rfl, hid_at q2 t2a t2a⟩ t2D (s12 _ _ eD)⟩
      | pol ks =>
        obtain ⟨x, rfl, hp⟩ := hL
        have hp0 := (hid_get hp).1
        exact ⟨rfl, _, rfl, _, _, _, _, false, rfl, .ty "tuple", .base (.lst hp0), kit_ty (by decide +kernel), false, rfl, iteF ⟨_, rfl, zs, eD, size_lt (by omega), done x H5 (Same.refl _) ⟨x, rfl, hp⟩ (wD x (List.mem_of_getElem? hx)) eD⟩⟩
    · obtain ⟨sm, zs, eD, lz, zD⟩ := h
      have lw := l3.1
      rw [show ws.length = Ms.length from lw, List.take_length] at lz
      refine ⟨D, zs, Ms.map asPol, _, _, _, rfl, (A3.trans (Rdv.of sm) (Int.le_refl _)).mono (by omega), DH, hid_at eD Da Da, lz, zD, fun M hM => ?_, by rw [List.length_map]; omega, fun z => by rw [List.length_map]; exact m2 z, ?_⟩
      · obtain ⟨N, hN', rfl⟩ := List.mem_map.mp hM
        exact asPol_nice (nm N hN')
      · rw [asPol_att fun N hN' => (nm N hN').1.1]
        exact m3
  -- way == 3
  refine ⟨RwI H a q way 5 6 6 1200 (attOf Ls), ?_, fun σ' H4 h => ?_⟩
  · obtain ⟨f, ws, Ms, y4, y5, y6, rfl, A3, hf, e3, l3, wf, nm, m1, m2, m3⟩ := h
    refine ⟨_, rfl, rfl, _, rfl, int_eq (fun e => ?_) (fun _ => ⟨f, ws, Ms, y4, y5, y6, rfl, A3, hf, e3, l3, wf, nm, by omega, fun z => by have := m2 z; omega, by omega, m3.2⟩)⟩
    have S3 := A3.src _ hS
    refine ⟨_, rfl, size_le (by show 2 ≤ 100000; decide), fun t1 h1 => ?_⟩
    have q1 := upd_same (H := H4) (a := t1) (o := .tup [.int 3, .int 2])
    have s1 := same_new (o := .tup [.int 3, .int 2]) h1
    generalize upd H4 t1 (.tup [.int 3, .int 2]) = G1 at *
    refine ⟨size_le (by show 2 ≤ 100000; decide), fun t2 h2 => ?_⟩
    have q2 := upd_same (H := G1) (a := t2) (o := .tup [.int 3, .int 3])
    have s2 := same_new (o := .tup [.int 3, .int 3]) h2
    generalize upd G1 t2 (.tup [.int 3, .int 3]) = G2 at *
    refine ⟨size_le (by show 2 ≤ 100000; decide), fun m hmm => ?_⟩
    have em := upd_same (H := G2) (a := m) (o := .lst [.ref t1, .ref t2])
    have sm := same_new (o := .lst [.ref t1, .ref t2]) hmm
    generalize upd G2 m (.lst [.ref t1, .ref t2]) = G3 at *
    have s13 := s1.trans (s2.trans sm)
    have lws := l3.1
    refine ⟨f, m, ws, _, rfl, rfl, s13 _ _ (hid_get e3).1, em, size_le (by show ws.length + 2 ≤ 100000; omega), fun o ho => ?_⟩
    have so := same_new (o := .lst (ws ++ [.ref t1, .ref t2])) ho
    have t1a := S3.new1 h1
    have t2a := S3.new1 (s1.free h2)
    have oa := S3.new1 (s13.free ho)
    have s4 := s13.trans so
    have k2 : (Lay.con 3 2).nice := Lay.nice_con (by decide) (by decide) (by decide) (by decide)
    have k3 : (Lay.con 3 3).nice := Lay.nice_con (by decide) (by decide) (by decide) (by decide)
    have lall := (l3.same (hid_same (a := a) (d := a) s13)).app (.cons (v := .ref t1) (L := .con 3 2) ⟨t1, rfl, hid_at ((s2.trans sm) _ _ q1) t1a t1a⟩ (.cons (v := .ref t2) (L := .con 3 3) ⟨t2, rfl, hid_at (sm _ _ q2) t2a t2a⟩ (Lays.none _)))
    have nb : ∀ x, V.ref x ∈ ws ++ [V.ref t1, .ref t2] → x ≠ o := fun x hx z => by
      obtain ⟨y, o', e', ho'⟩ := lall.ref hx
      cases e'
      rw [z] at ho'
      rw [(hid_get ho').1] at ho
      cases ho
    refine ⟨o, _, Ms ++ [.con 3 2, .con 3 3], y4, y5, y6, rfl, (A3.trans (Rdv.of s4) (Int.le_refl _)).mono (by omega), A3.free hS (s13.free ho), hid_at upd_same oa oa, lall.same (hid_same so), nb, fun M hM => ?_, ?_, fun _ => ?_, ?_⟩
    · rcases List.mem_append.mp hM with z | z
      · exact nm M z
      · simp only [List.mem_cons, List.not_mem_nil, or_false] at z
        rcases z with rfl | rfl
        · exact ⟨k2, by decide⟩
        · exact ⟨k3, by decide⟩
    · rw [List.length_append]
      show Ms.length + 2 ≤ 6
      have := m2 (by omega)
      omega
    · rw [List.length_append]
      show Ms.length + 2 ≤ 6
      have := m2 (by omega)
      omega
    · rw [attOf_app]
      show attOf Ms * (1 * 2 * 3) ≤ 1200 ∧ _ ≤ attOf Ms * (1 * 2 * 3)
      have := attOf_pos fun N hN' => (nm N hN').1.1
      omega
  -- way > 3
  refine ⟨RwI H a q way 12 6 6 1200 (attOf Ls), ?_, fun σ' H5 h => ?_⟩
  · obtain ⟨f, ws, Ms, y4, y5, y6, rfl, A3, hf, e3, l3, wf, nm, m1, m2, m3⟩ := h
    have S3 := A3.src _ hS
    have fa := hS.new1 hf
    refine ⟨_, rfl, _, _, rfl, rfl, _, rfl, ite2 (fun _ => ?_) (fun _ => ⟨f, ws, Ms, y4, y5, y6, rfl, A3.mono (by omega), hf, e3, l3, wf, nm, m1, m2, m3⟩)⟩
    refine ⟨_, rfl, Nat.zero_le _, fun o ho => ?_⟩
    have so := same_new (o := .lst []) ho
    have eo := upd_same (H := H4) (a := o) (o := .lst [])
    generalize upd H4 o (.lst []) = H5 at *
    have l5 := l3.same (hid_same (a := a) (d := a) so)
    have e5 := (hid_same (a := a) (d := a) so) _ _ e3
    have A5 := A3.trans (Rdv.of so) (Int.le_refl _)
    have S5 := S3.same so
    refine ⟨_, _, dp_nest (nest_hid (l5.nest e5)), .lst (sql eo) .nil, shaped_lays _, by decide +kernel, _, rfl, ite2 (fun e => ?_) (fun _ => ⟨f, ws, Ms, y4, y5, y6, rfl, A5.mono (by omega), hf, e5, l5, wf, nm, m1, m2, m3⟩)⟩
    have pos : 0 < ws.length := by
      rw [l3.1]
      rcases Ms with _ | ⟨x, r⟩
      · cases e
      · exact Nat.succ_pos _
    have lw := l3.1
    refine ⟨_, rfl, _, rfl, f, ws, rfl, .inl (sql (hid_get e5).1), a, _, ws.length, rfl, S5, by omega, lim (by omega) (by omega), fun H6 sp A6 l6 u6 => ?_⟩
    have l6' := l5.same A6.same
    have e6 := A6.same _ _ e5
    have A7 := A5.trans A6 (Int.le_refl _)
    have S6 := A6.src _ S5
    obtain ⟨v, hv, hv1, hv2⟩ := at_val (xs := ws) l6 u6
    obtain ⟨L, hL⟩ : ∃ L, Ms[sp.toNat]? = some L := ⟨_, List.getElem?_eq_getElem (by omega)⟩
    have ly := l6'.2 _ _ _ hv1 hL
    have nL := nm L (List.mem_of_getElem? hL)
    refine ⟨_, rfl, _, rfl, f, _, sp, _, rfl, rfl, sql (hid_get e6).1, hv2, ?_⟩
    have six := ixN_at l6 u6
    have store : ∀ (Hf : Hp) (y : Addr) (L' : Lay) (c : Int) (z4 z5 z6 : Option V), Rdv a c H Hf → c ≤ 12 → hid a a Hf f = some (.lst (ws.set sp.toNat (.ref y))) → Lays (hid a a Hf) ws Ms → LayAt (hid a a Hf) (.ref y) L' → y ≠ f → L'.nice ∧ L'.cnt ≤ 30 → L'.cnt = L.cnt →
        RwI H a q way 12 6 6 1200 (attOf Ls) [some (.ref a), some (.ref q), some (.ref f), some (.int way), z4, z5, z6] Hf := fun Hf y L' c z4 z5 z6 Af cf ef lf hy yf nL' ec => by
      refine ⟨f, _, Ms.set sp.toNat L', z4, z5, z6, rfl, Af.mono cf, hf, ef, lf.set sp.toNat hy, fun x hx => ?_, fun M hM => ?_, by rw [List.length_set]; exact m1, fun z => by rw [List.length_set]; exact m2 z, ?_⟩
      · rcases List.mem_or_eq_of_mem_set hx with z | z
        · exact wf x z
        · injection z with z
          rw [z]
          exact yf
      · rcases List.mem_or_eq_of_mem_set hM with z | z
        · exact nm M z
        · rw [z]
          exact nL'
      · have e : (Ms.set sp.toNat L').map Lay.cnt = Ms.map Lay.cnt := by
          refine List.ext_getElem? fun i => ?_
          rw [List.getElem?_map, List.getElem?_map, List.getElem?_set]
          split
          · rename_i z
            subst z
            rw [hL, if_pos (List.getElem?_eq_some_iff.mp hL).1]
            show some L'.cnt = some L.cnt
            rw [ec]
          · rfl
        rw [attOf_same e]
        exact m3
    have wfree : ∀ (Hx : Hp) (y : Addr), Lays (hid a a Hx) ws Ms → Hx y = none → ∀ x, V.ref x ∈ ws → x ≠ y := fun Hx y lx hy x hx z => by
      obtain ⟨y', o', e', ho'⟩ := lx.ref hx
      cases e'
      rw [z] at ho'
      rw [(hid_get ho').1] at hy
      cases hy
    cases L with
    | con wt m =>
      obtain ⟨x, rfl, hp⟩ := ly
      have hp := (hid_get hp).1
      obtain ⟨⟨okL, w1, c2⟩, h30⟩ := id nL
      have ok := okL
      rw [Lay.ok_con, Bool.and_eq_true] at ok
      have w0 := of_decide_eq_true ok.1
      have c1 := of_decide_eq_true ok.2
      refine ⟨_, rfl, _, _, _, _, true, rfl, .ty "tuple", .base (.tup hp), kit_ty (by decide +kernel), true, rfl, iteT ?_⟩
      refine ⟨_, rfl, x, _, 0, _, rfl, rfl, sqt hp, rfl, wt, rfl, w0, w1, fun u u0 u1 _ => ⟨_, rfl, x, _, 1, _, rfl, rfl, sqt hp, rfl, size_le (by show 2 ≤ 100000; decide), fun t ht => ?_⟩⟩
      have st := same_new (o := .tup [.int u, .int m]) ht
      have et := upd_same (H := H6) (a := t) (o := .tup [.int u, .int m])
      have ta := S6.new1 ht
      have tf : t ≠ f := fun z => by have := (hid_get e6).1; rw [← z, ht] at this; cases this
      generalize upd H6 t (.tup [.int u, .int m]) = H7 at *
      have e7 := hid_same (a := a) (d := a) st _ _ e6
      have A8 := A7.trans (Rdv.of st) (Int.le_refl _)
      have kp : ∀ x o, x ≠ f → hid a a H7 x = some o → hid a a (upd H7 f (.lst (ws.set sp.toNat (.ref t)))) x = some o := fun x o ne ho => by
        rw [hid_oth fa fa, upd_ne ne]
        exact ho
      exact ⟨_, rfl, _, rfl, f, ws, sp, _, rfl, rfl, (hid_get e7).1, six, store _ t (.con u m) _ _ _ _ (A8.mut hS hf) (by omega) (by rw [hid_oth fa fa, upd_same]) ((l6'.same (hid_same st)).carry fun x o hx ho => kp x o (wf x hx) ho) ⟨t, rfl, kp _ _ tf (hid_at et ta ta)⟩ tf ⟨Lay.nice_con u0 u1 c1 c2, h30⟩ rfl⟩
    | pol ks =>
      obtain ⟨x, rfl, hp0⟩ := ly
      have hp := (hid_get hp0).1
      refine ⟨_, rfl, _, _, _, _, false, rfl, .ty "tuple", .base (.lst hp), kit_ty (by decide +kernel), false, rfl, iteF ?_⟩
      refine ⟨_, rfl, Nat.zero_le _, fun o2 ho2 => ?_⟩
      have s2 := same_new (o := .lst []) ho2
      have eo2 := upd_same (H := H6) (a := o2) (o := .lst [])
      generalize upd H6 o2 (.lst []) = H7 at *
      have hp7 := s2 _ _ hp
      have l7 := l6'.same (hid_same (a := a) (d := a) s2)
      have e7 := hid_same (a := a) (d := a) s2 _ _ e6
      have A8 := A7.trans (Rdv.of s2) (Int.le_refl _)
      have S7 := S6.same s2
      refine ⟨dInts ks, dInts [], dp_ints (sql hp7), dp_nil (sql eo2), shaped_ints _, shaped_ints _, _, rfl, ?_⟩
      rw [eqv_ints]
      refine ite2 (fun ne => ?_) (fun _ => ⟨f, ws, Ms, _, _, _, rfl, A8.mono (by omega), hf, e7, l7, wf, nm, m1, m2, m3⟩)
      have kpos : 0 < ks.length := by
        rcases ks with _ | ⟨x, r⟩
        · exact absurd ne (by decide)
        · exact Nat.succ_pos _
      obtain ⟨⟨okL, k60, kb⟩, h30⟩ := id nL
      refine ⟨_, rfl, _, rfl, x, _, rfl, .inl (sql hp7), a, _, ks.length, by rw [List.length_map]; rfl, S7, by omega, lim (by omega) (by omega), fun H8 pt A9 l8 u8 => ?_⟩
      have hp8 := (hid_get (A9.same _ _ (hid_same (a := a) (d := a) s2 _ _ hp0))).1
      have e8 := A9.same _ _ e7
      have l8' := l7.same A9.same
      have S8 := A9.src _ S7
      have A10 := A8.trans A9 (Int.le_refl _)
      obtain ⟨x0, hx0, hxa, hxb⟩ := at_int (ns := ks) l8 u8
      refine ⟨_, rfl, x, _, rfl, .inl (sql hp8), fun y hy => ?_⟩
      have sy := same_new (o := .lst (ks.map V.int)) hy
      have ey := upd_same (H := H8) (a := y) (o := .lst (ks.map V.int))
      have ya := S8.new1 hy
      have yf : y ≠ f := fun z => by have := (hid_get e8).1; rw [← z, hy] at this; cases this
      have wy := wfree _ y l8' hy
      have xy : x ≠ y := fun z => by rw [z, hy] at hp8; cases hp8
      have xf : x ≠ f := wf x (List.mem_of_getElem? hv1)
      have yH : H y = none := A10.free hS hy
      generalize upd H8 y (.lst (ks.map V.int)) = H9 at *
      have e9 := hid_same (a := a) (d := a) sy _ _ e8
      have l9 := l8'.same (hid_same (a := a) (d := a) sy)
      have A11 := A10.trans (Rdv.of sy) (Int.le_refl _)
      refine ⟨_, rfl, _, rfl, f, ws, sp, _, rfl, rfl, (hid_get e9).1, six, ?_⟩
      have kp : ∀ x o, x ≠ f → hid a a H9 x = some o → hid a a (upd H9 f (.lst (ws.set sp.toNat (.ref y)))) x = some o := fun x o ne ho => by
        rw [hid_oth fa fa, upd_ne ne]
        exact ho
      have ef : hid a a (upd H9 f (.lst (ws.set sp.toNat (.ref y)))) f = some (.lst (ws.set sp.toNat (.ref y))) := by rw [hid_oth fa fa, upd_same]
      have eyf := kp y _ yf (hid_at ey ya ya)
      have exf := kp x _ xf (hid_at (sy _ _ hp8) (fun z => (hid_get hp0).2.1 z) (fun z => (hid_get hp0).2.1 z))
      have l10 := l9.carry fun x o hx ho => kp x o (wf x hx) ho
      have A12 := A11.mut (o := .lst (ws.set sp.toNat (.ref y))) hS hf
      generalize upd H9 f (.lst (ws.set sp.toNat (.ref y))) = H10 at *
      have k0 := kb x0 hx0
      refine ⟨_, rfl, _, rfl, x, _, pt, _, rfl, rfl, sql (hid_get exf).1, hxb, x0, rfl, k0.1, k0.2, fun u u0 u1 _ => ?_⟩
      have nK : (Lay.pol (ks.set pt.toNat u)).nice := Lay.nice_pol (by rw [List.length_set]; exact k60) (fun z hz => (List.mem_or_eq_of_mem_set hz).elim (kb z) fun q => by rw [q]; exact ⟨u0, u1⟩)
      have cK : (Lay.pol (ks.set pt.toNat u)).cnt = (Lay.pol ks).cnt := by
        show ((ks.set pt.toNat u).length : Int) + 1 = (ks.length : Int) + 1
        rw [List.length_set]
      have spl : sp < ((ws.set sp.toNat (V.ref y)).length : Int) := by rw [List.length_set]; exact u6
      have gy : atI (ws.set sp.toNat (V.ref y)) sp = some (.ref y) := by
        unfold atI
        rw [ixN_at l6 spl]
        show (ws.set sp.toNat (V.ref y))[sp.toNat]? = _
        rw [List.getElem?_set_self (by omega)]
      have kp2 : ∀ z o, z ≠ y → hid a a H10 z = some o → hid a a (upd H10 y (.lst ((ks.map V.int).set pt.toNat (.int u)))) z = some o := fun z o ne ho => by
        rw [hid_oth ya ya, upd_ne ne]
        exact ho
      refine ⟨_, rfl, _, rfl, f, _, sp, _, rfl, rfl, sql (hid_get ef).1, gy, _, rfl, y, _, pt, _, rfl, rfl, (hid_get eyf).1, ixN_at l8 (by rw [List.length_map]; exact u8), ?_⟩
      refine store _ y (.pol (ks.set pt.toNat u)) _ _ _ _ (A12.mut hS yH) (by omega) (kp2 _ _ (Ne.symm yf) ef) (l10.carry fun z o hz ho => kp2 z o (wy z hz) ho) ⟨y, rfl, ?_⟩ yf ⟨nK, by rw [cK]; exact h30⟩ cK
      rw [hid_oth ya ya, upd_same, List.map_set]
  · obtain ⟨f, ws, Ms, y4, y5, y6, rfl, A3, hf, e3, l3, wf, nm, m1, m2, m3⟩ := h
    exact ⟨_, rfl, k _ f Ms (A3.mono (by omega)) (l3.nest e3) (fun M hM => (nm M hM).1) m1 m3.1 m3.2⟩

end
end Rn
namespace Rn
open PySem PySem.Spec PyProof.Rows L2
section
variable {P : Program} {w : World} {K : PySem.W.Frag} {mg : Str → Option Value} {base : Heap}
def sp_Runner_init (K : PySem.W.Frag) (C : Addr) : Sp := fun vs H Q _ => ∃ (p dx a : Addr) (Ls : List Lay), vs = [.ref p, .ref a] ∧ H p = some (.ins C dx []) ∧ NestAt H a Ls ∧ Fit Ls ∧ ∀ H', Chg p H H' → RunO C H H' p 0 Ls → Q .non H'
theorem ok_Runner_init (T : Txt P K mg) : FnOk P w K mg base CX0 7 T.f_Runner_init T.d_Runner_init ["self", "nesting"] (sp_Runner_init K T.C_Runner) := by
  have G_normal_form := (ok_normal_form0 (P := P) (w := w) (base := base) T)
  refine T.F_Runner_init.ok sc_Runner_init (fun vs H Q E h => ?_) (fun cdv A outer s H vs Q E hr h => ?_)
  · obtain ⟨p, dx, a, Ls, rfl, _⟩ := h
    rfl
  obtain ⟨p, dx, a, Ls, rfl, hp, hN, hf, q⟩ := h
  refine ⟨_, (pss_cons (ps_fld (pv 0) (pe_call G_normal_form hr (by rfl) T.g_normal_form T.F_normal_form.kp T.b_normal_form .nil pass0 (pa_cons (pv 1) pa_nil)) rfl)
      (pss_one (ps_fld (pv 0) pe_int rfl))), ?_⟩
  refine ⟨_, rfl, a, Ls, rfl, hN, hf, fun H1 l us s1 f1 v1 _ => ?_⟩
  have hp1 := s1 _ _ hp
  refine ⟨_, rfl, p, T.C_Runner, dx, [], rfl, hp1, T.cl_Runner, T.n_nesting, (by show 0 < 1000; decide), _, rfl, p, T.C_Runner, dx, _, rfl, upd_same, T.cl_Runner, T.n_attempt, (by show 1 < 1000; decide), ?_⟩
  refine q _ (Chg.trans (Chg.put s1) (Chg.put (Same.refl _))) ⟨fun x hx => ?_, dx, l, us, upd_same, f1, nestV_put upd_same (nestV_put hp1 v1)⟩
  by_cases e : x = p
  · rw [e, upd_same] at hx
    cases hx
  · rw [upd_ne e, upd_ne e] at hx
    exact s1.free hx

end
end Rn
namespace Rn
open PySem PySem.Spec PyProof.Rows L2
section
variable {P : Program} {w : World} {K : PySem.W.Frag} {mg : Str → Option Value} {base : Heap}
def sp_Runner_eq (K : PySem.W.Frag) (C : Addr) : Sp := fun vs H Q _ => ∃ (p : Addr) (v : V) (n : Nat) (Ls : List Lay), vs = [.ref p, v] ∧ RunA C H p n Ls ∧ (∀ L ∈ Ls, L.ok = true) ∧
  ((∃ (q : Addr) (m : Nat) (Ms : List Lay), v = .ref q ∧ RunA C H q m Ms ∧ (∀ L ∈ Ms, L.ok = true) ∧ Q (.bl (decide (n = m) && decide (flatL Ls = flatL Ms))) H) ∨ (Item H v ∧ Q (.bl false) H))
theorem ok_Runner_eq (T : Txt P K mg) : FnOk P w K mg base CX0 1 T.f_Runner_eq T.d_Runner_eq ["self", "other"] (sp_Runner_eq K T.C_Runner) := by
  refine T.F_Runner_eq.ok sc_Runner_eq (fun vs H Q E h => ?_) (fun cdv A outer s H vs Q E hr h => ?_)
  · obtain ⟨p, v, n, Ls, rfl, _⟩ := h
    rfl
  obtain ⟨p, v, n, Ls, rfl, ⟨dx, l, hp, hN⟩, dl, h⟩ := h
  refine ⟨_, (pss_cons (ps_if (pt_not (pt_val (pe_callB call_isi (by rfl) T.m_isinstance (by decide +kernel) (pa_cons (pv 1) (pa_cons (pe_glob (v := .ref T.C_Runner) rfl T.g_Runner rfl) pa_nil)))))
      (pss_one (ps_ret pe_bl))
      pss_nil)
      (pss_one (ps_ret (pe_and (pe_cmpR op_eq (pe_fld (pv 0) rfl) (pe_fld (pv 1) rfl) (nomark _)) (pe_one (pe_cmpR (op_eqD hr.units) (pe_fld (pv 0) rfl) (pe_fld (pv 1) rfl) (nomark _))))))), ?_⟩
  have I := T.is_Runner
  rcases h with ⟨q, m, Ms, rfl, ⟨dy, l', hp', hN'⟩, dm, k⟩ | ⟨it, k⟩
  · refine ⟨_, rfl, _, _, _, _, true, rfl, .own _, .base (.ins hp' I.cl I.ha I.hn I.htk I.hm), I.me, true, rfl, iteF ?_⟩
    refine ⟨_, rfl, p, T.C_Runner, dx, _, _, rfl, hp, T.cl_Runner, T.n_attempt, runF_a _ _, _, rfl, q, T.C_Runner, dy, _, _, rfl, hp', T.cl_Runner, T.n_attempt, runF_a _ _, rfl, _, rfl, int_eq (fun e => ?_) (fun e => ?_)⟩
    · refine ⟨_, rfl, p, T.C_Runner, dx, _, _, rfl, hp, T.cl_Runner, T.n_nesting, runF_n _ _, _, rfl, q, T.C_Runner, dy, _, _, rfl, hp', T.cl_Runner, T.n_nesting, runF_n _ _, _, _, dp_nest hN, dp_nest hN', shaped_lays _, shaped_lays _, ?_⟩
      have e : n = m := by omega
      rw [decide_eq_true e, Bool.true_and] at k
      have z : laysB (nfL Ls) (nfL Ms) = decide (flatL Ls = flatL Ms) := by
        obtain ⟨a1, a2⟩ := nfL_ok dl
        obtain ⟨b1, b2⟩ := nfL_ok dm
        rw [Bool.eq_iff_iff, laysB_iff, decide_eq_true_eq, ← a2, ← b2]
        exact ⟨fun z => by rw [z], fun z => nf_unique a1 b1 z⟩
      rw [eqv_lays, z]
      exact k
    · have e : ¬ n = m := by omega
      rw [decide_eq_false e, Bool.false_and] at k
      exact k
  · rcases it with rfl | ⟨j, rfl⟩ | ⟨t, rfl⟩ | ⟨z, ys, rfl, hz⟩
    · exact ⟨_, rfl, _, _, _, _, false, rfl, .own _, .base .non, T.kt_Runner _ (.inl rfl), false, rfl, iteT k⟩
    · exact ⟨_, rfl, _, _, _, _, false, rfl, .own _, .base (.int j), T.kt_Runner _ (.inr (.inl rfl)), false, rfl, iteT k⟩
    · exact ⟨_, rfl, _, _, _, _, false, rfl, .own _, .base (.str t), T.kt_Runner _ (.inr (.inr (.inl rfl))), false, rfl, iteT k⟩
    · exact ⟨_, rfl, _, _, _, _, false, rfl, .own _, .base (.lst hz), T.kt_Runner _ (.inr (.inr (.inr rfl))), false, rfl, iteT k⟩

end
end Rn
namespace Rn
open PySem PySem.Spec PyProof.Rows L2
section
variable {P : Program} {w : World} {K : PySem.W.Frag} {mg : Str → Option Value} {base : Heap}
def sp_Runner_left (K : PySem.W.Frag) (C : Addr) : Sp := fun vs H Q _ => ∃ (p : Addr) (n : Nat) (Ls : List Lay), vs = [.ref p] ∧ RunA C H p n Ls ∧ Drawn Ls ∧ ∀ H', Same H H' → Q (.int (attOf Ls - 1 - (n : Int))) H'
theorem ok_Runner_left (T : Txt P K mg) : FnOk P w K mg base CX0 5 T.f_Runner_left T.d_Runner_left ["self"] (sp_Runner_left K T.C_Runner) := by
  have G_attempts := (ok_attempts (P := P) (w := w) (base := base) T)
  refine T.F_Runner_left.ok sc_Runner_left (fun vs H Q E h => ?_) (fun cdv A outer s H vs Q E hr h => ?_)
  · obtain ⟨p, n, Ls, rfl, _⟩ := h
    rfl
  obtain ⟨p, n, Ls, rfl, ⟨dx, l, hp, hN⟩, d, q⟩ := h
  refine ⟨_, (pss_one (ps_ret (pe_op op_sub (pe_op op_sub (pe_call G_attempts hr (by rfl) T.g_attempts T.F_attempts.kp T.b_attempts .nil pass0 (pa_cons (pe_fld (pv 0) rfl) pa_nil)) pe_int) (pe_fld (pv 0) rfl)))), ?_⟩
  refine ⟨_, rfl, p, T.C_Runner, dx, _, _, rfl, hp, T.cl_Runner, T.n_nesting, runF_n _ _, l, _, rfl, hN, d.nfok, by rw [d.nfatt]; exact d.att, fun H1 s1 => ?_⟩
  rw [d.nfatt]
  exact ⟨_, _, rfl, rfl, _, rfl, p, T.C_Runner, dx, _, _, rfl, s1 _ _ hp, T.cl_Runner, T.n_attempt, runF_a _ _, _, _, rfl, rfl, q _ s1⟩

end
end Rn
namespace Rn
open PySem PySem.Spec PyProof.Rows L2
section
variable {P : Program} {w : World} {K : PySem.W.Frag} {mg : Str → Option Value} {base : Heap}
def sp_Runner_fail (K : PySem.W.Frag) (C CN CM : Addr) : Sp := fun vs H Q E => ∃ (H0 : Hp) (p : Addr) (n : Nat) (Ls : List Lay) (t : Int), vs = [.ref p, .int t] ∧ RunO C H0 H p n Ls ∧ Drawn Ls ∧ n < attN Ls ∧ (t < 0 → Err CN (.int t) H E) ∧ (0 ≤ t → attOf Ls - 1 - (n : Int) < t → Err CM (.int (attOf Ls - 1 - (n : Int))) H E) ∧
  ∀ k : Nat, t = (k : Int) → n + k < attN Ls → ∀ H', Chg p H H' → RunO C H0 H' p (n + k) Ls → Q .non H'
theorem ok_Runner_fail (T : Txt P K mg) : FnOk P w K mg base (L2.CX P w) 6 T.f_Runner_fail T.d_Runner_fail ["self", "times"] (sp_Runner_fail K T.C_Runner T.C_InvalidNumber T.C_NoMoreAttempts) := by
  have G_Runner_left := (ok_Runner_left (P := P) (w := w) (base := base) T)
  refine T.F_Runner_fail.ok (CX := L2.CX P w) sc_Runner_fail (fun vs H Q E h => ?_) (fun cdv A outer s H vs Q E hr h => ?_)
  · obtain ⟨H0, p, n, Ls, t, rfl, _⟩ := h
    rfl
  obtain ⟨H0, p, n, Ls, t, rfl, hO, d, hn, q1, q2, q3⟩ := h
  have hR := hO.run
  obtain ⟨g, dx, l, us, hp, hl0, hV⟩ := id hO
  refine ⟨_, (pss_cons (ps_if (pt_cmpR op_lt (pv 1) pe_int (nomark _))
      (pss_one (ps_raiseVe rfl T.V_InvalidNumber hr (takes_of rfl rfl rfl rfl) (pa_cons (pv 1) pa_nil)))
      pss_nil)
      (pss_cons (ps_set (i := 2) sc_Runner_fail.nd rfl (Or.inl rfl) (pe_meth0 (pv 0) T.cl_Runner T.me_Runner_left G_Runner_left hr T.b_Runner_left .nil pass0))
      (pss_cons (ps_if (pt_cmpR op_gt (pv 1) (pv 2) (nomark _))
      (pss_one (ps_raiseVe rfl T.V_NoMoreAttempts hr (takes_of rfl rfl rfl rfl) (pa_cons (pv 2) pa_nil)))
      pss_nil)
      (pss_one (ps_fld (pv 0) (pe_op op_add (pe_fld (pv 0) rfl) (pv 1)) rfl))))), ?_⟩
  have nl : (runF l (n : Int)).lookup ("left" : Str) = none := runF_no _ _ (by decide +kernel) (by decide +kernel)
  have ae := d.attE
  refine ⟨_, rfl, _, _, rfl, rfl, _, rfl, ite2 (fun e => ⟨_, rfl, _, rfl, fun dd hd => q1 (of_decide_eq_true e) _ dd (same_new hd) upd_same⟩) (fun e => ?_)⟩
  have t0 : 0 ≤ t := Int.not_lt.mp fun z => e (decide_eq_true z)
  refine ⟨_, rfl, p, dx, _, rfl, hp, nl, p, n, Ls, rfl, hR, d, fun H1 s1 => ?_⟩
  refine ⟨_, rfl, _, rfl, _, _, rfl, rfl, _, rfl, ite2 (fun e => ⟨_, rfl, _, rfl, fun dd hd => q2 t0 (of_decide_eq_true e) _ dd (s1.trans (same_new hd)) upd_same⟩) (fun e => ?_)⟩
  have t1 : t ≤ attOf Ls - 1 - (n : Int) := Int.not_lt.mp fun z => e (decide_eq_true z)
  have hp1 := s1 _ _ hp
  refine ⟨_, rfl, p, T.C_Runner, dx, _, _, rfl, hp1, T.cl_Runner, T.n_attempt, runF_a _ _, _, rfl, _, _, rfl, rfl, _, rfl, p, T.C_Runner, dx, _, rfl, hp1, T.cl_Runner, T.n_attempt, (by rw [runF_eq]; show 2 < 1000; decide), ?_⟩
  obtain ⟨k, rfl⟩ : ∃ k : Nat, t = (k : Int) := ⟨t.toNat, by omega⟩
  refine q3 k rfl (by omega) _ (Chg.put s1) ⟨fun x hx => ?_, dx, l, us, ?_, hl0, nestV_put hp1 (hV.same s1)⟩
  · by_cases e : x = p
    · rw [e, upd_same] at hx
      cases hx
    · rw [upd_ne e] at hx
      exact g x (s1.free hx)
  · rw [upd_same, runF_puta]
    rfl
/-- .. where it goes on -/
def sp_Runner_fail0 (K : PySem.W.Frag) (C : Addr) : Sp := fun vs H Q _ => ∃ (H0 : Hp) (p : Addr) (n k : Nat) (Ls : List Lay), vs = [.ref p, .int (k : Int)] ∧ RunO C H0 H p n Ls ∧ Drawn Ls ∧ n + k < attN Ls ∧ ∀ H', Chg p H H' → RunO C H0 H' p (n + k) Ls → Q .non H'
theorem ok_Runner_fail0 (T : Txt P K mg) : FnOk P w K mg base CX0 6 T.f_Runner_fail T.d_Runner_fail ["self", "times"] (sp_Runner_fail0 K T.C_Runner) :=
  calm0 (ok_Runner_fail T) fun vs H Q E h => by
    obtain ⟨H0, p, n, k, Ls, rfl, hR, d, hn, q⟩ := h
    have ae := d.attE
    exact ⟨H0, p, n, Ls, k, rfl, hR, d, by omega, fun z => absurd z (by omega), fun _ z => absurd z (by omega), fun j e hj H' c r => by
      obtain rfl : k = j := by omega
      exact q H' c r⟩

end
end Rn
namespace Rn
open PySem PySem.Spec PyProof.Rows L2
section
variable {P : Program} {w : World} {K : PySem.W.Frag} {mg : Str → Option Value} {base : Heap}
def sp_Runner_wrap (K : PySem.W.Frag) (C CL : Addr) : Sp := fun vs H Q E => ∃ (H0 : Hp) (p : Addr) (n : Nat) (Ls : List Lay) (v : V) (L : Lay), vs = [.ref p, v] ∧ RunO C H0 H p n Ls ∧ Drawn Ls ∧ LayAt H v L ∧ (L.ok = true → Drawn (Ls ++ [L])) ∧ (L.ok = false → Err CL (.int 0) H E) ∧
  (L.ok = true → ∀ H', Chg p H H' → RunO C H0 H' p n (Ls ++ [L]) → Q .non H')
theorem ok_Runner_wrap (T : Txt P K mg) : FnOk P w K mg base (L2.CX P w) 7 T.f_Runner_wrap T.d_Runner_wrap ["self", "layer"] (sp_Runner_wrap K T.C_Runner T.C_InvalidLayer) := by
  have G_normal_form := (ok_normal_form (P := P) (w := w) (base := base) T)
  have G_merged := (ok_merged (P := P) (w := w) (base := base) T).mono (by decide : 2 ≤ 6)
  refine T.F_Runner_wrap.okX sc_Runner_wrap (fun vs H Q E h => ?_) (fun cdv A outer s H vs Q E hr h => ?_)
  · obtain ⟨H0, p, n, Ls, v, L, rfl, _⟩ := h
    rfl
  obtain ⟨H0, p, n, Ls, v, L, rfl, ⟨gr, dx, l, us0, hp, hl0, hV⟩, d, hL, dn, qe, q⟩ := h
  refine ⟨_, (pss_one (ps_fld (pv 0) (pe_call G_merged hr (by rfl) T.g_merged T.F_merged.kp T.b_merged .nil pass0 (pa_cons (pe_op op_cat (pe_fld (pv 0) rfl) (pe_callS G_normal_form hr (by rfl) T.g_normal_form T.F_normal_form.kp T.b_normal_form (fun σ => passAt (takes_of rfl rfl rfl rfl) σ) (pa_cons (pe_lst (pa_cons (pv 1) pa_nil)) pa_nil))) pa_nil)) rfl)), ?_⟩
  refine ⟨_, rfl, p, T.C_Runner, dx, _, _, rfl, hp, T.cl_Runner, T.n_nesting, runF_n _ _, _, rfl, size_le (by show 1 ≤ 100000; decide), fun y hy => ?_⟩
  have sy := same_new (o := .lst [v]) hy
  have ny : NestAt (upd H y (.lst [v])) y [L] := nest_of upd_same (.cons (hL.same sy) .nil)
  generalize upd H y (.lst [v]) = H1 at *
  refine ⟨y, [L], rfl, ny, fun b0 => ?_, fun i hi => ?_⟩
  · have okL := badAt_none b0 L List.mem_cons_self
    have d2 := dn okL
    have nl := d2.nice L (List.mem_append_right _ List.mem_cons_self)
    have d1 : Drawn [L] := ⟨fun M hM => by rw [List.mem_singleton.mp hM]; exact nl, by show 1 ≤ 8; decide⟩
    have f1 := d1.fit
    refine ⟨f1.few, f1.small, f1.short, fun H2 r us Ms s2 fr vr nr er _ => ?_⟩
    have ir := nfL_is d1.ok nr er
    subst ir
    have s12 := sy.trans s2
    have hV2 := hV.same s12
    have hw := hV2.1
    have lN := hV2.lays
    have lw := lN.1
    obtain ⟨n1, e1⟩ := nfL_ok d.ok
    have l1 := d.fit.nf.2.1
    have l2 := d1.fit.nf.2.1
    have lr := vr.2.1
    refine ⟨l, r, _, _, rfl, rfl, hw, vr.1, size_le (by omega), fun g hg => ?_⟩
    have sg := same_new (o := .lst (us0 ++ us)) hg
    have lg := (lN.app vr.lays).same sg
    have eg := upd_same (H := H2) (a := g) (o := .lst (us0 ++ us))
    generalize upd H2 g (.lst (us0 ++ us)) = H3 at *
    have okS : ∀ M ∈ [L], M.ok = true := d1.ok
    refine ⟨g, _, rfl, lg.nest eg, fun M hM => (List.mem_append.mp hM).elim (n1.1 M) (nr.1 M), by rw [List.length_append]; omega, ?_, fun H4 x us4 s4 f4 v4 _ => ?_⟩
    · rw [attOf_app, d.nfatt, d1.nfatt, ← attOf_app]
      exact pw_le d2.att (by decide)
    · have s14 := (s12.trans sg).trans s4
      have hp4 := s14 _ _ hp
      refine ⟨_, rfl, p, T.C_Runner, dx, _, rfl, hp4, T.cl_Runner, T.n_nesting, (by rw [runF_eq]; show 2 < 1000; decide), ?_⟩
      have free : ∀ y, H3 y = none → H0 y = none := fun y hy => gr y ((s12.trans sg).free hy)
      refine q okL _ (Chg.put s14) ⟨fun y hy => ?_, dx, x, us4, by rw [upd_same, runF_putn], free x f4, ?_⟩
      · by_cases e : y = p
        · rw [e, upd_same] at hy
          cases hy
        · rw [upd_ne e] at hy
          exact gr y (s14.free hy)
      · rw [nfL_app d.ok okS, ← merge_join n1 nr]
        exact nestV_put hp4 ⟨v4.1, v4.2.1, v4.2.2.1, fun y hy => ⟨(v4.2.2.2 y hy).1, free y (v4.2.2.2 y hy).2⟩⟩
  · have okL : L.ok = false := by
      cases e : L.ok with
      | false => rfl
      | true =>
        have := badAt_all (Ls := [L]) fun M hM => by rw [List.mem_singleton.mp hM]; exact e
        rw [this] at hi
        cases hi
    have hi0 : i = 0 := by
      have h2 := List.findIdx?_eq_some_iff_getElem.mp hi
      obtain ⟨h3, _⟩ := h2
      have : i < 1 := h3
      omega
    subst hi0
    exact (qe okL).step sy
/-- .. by a valid layer -/
def sp_Runner_wrap0 (K : PySem.W.Frag) (C : Addr) : Sp := fun vs H Q _ => ∃ (H0 : Hp) (p : Addr) (n : Nat) (Ls : List Lay) (v : V) (L : Lay), vs = [.ref p, v] ∧ RunO C H0 H p n Ls ∧ Drawn (Ls ++ [L]) ∧ LayAt H v L ∧ ∀ H', Chg p H H' → RunO C H0 H' p n (Ls ++ [L]) → Q .non H'
theorem ok_Runner_wrap0 (T : Txt P K mg) : FnOk P w K mg base CX0 7 T.f_Runner_wrap T.d_Runner_wrap ["self", "layer"] (sp_Runner_wrap0 K T.C_Runner) :=
  calm0 (ok_Runner_wrap T) fun vs H Q E h => by
    obtain ⟨H0, p, n, Ls, v, L, rfl, hR, d, hL, q⟩ := h
    have okL := d.ok L (List.mem_append_right _ List.mem_cons_self)
    refine ⟨H0, p, n, Ls, v, L, rfl, hR, ⟨fun M hM => d.nice M (List.mem_append_left _ hM), ?_⟩, hL, fun _ => d, (fun z => by rw [okL] at z; cases z), fun _ => q⟩
    have := d.few
    rw [List.length_append] at this
    exact Nat.le_of_add_right_le this

end
end Rn
namespace Rn
open PySem PySem.Spec PyProof.Rows L2
section
variable {P : Program} {w : World} {K : PySem.W.Frag} {mg : Str → Option Value} {base : Heap}
/-- only lists that stand in G' and not in G may have changed -/
structure Mid (G G' H H' : Hp) : Prop where
  keep : ∀ b o, H b = some o → (G' b = none ∨ G b ≠ none ∨ ∀ xs, o ≠ .lst xs) → H' b = some o
  dom : ∀ b, H' b = none → H b = none
theorem Mid.refl {G G' H : Hp} : Mid G G' H H := ⟨fun _ _ h _ => h, fun _ h => h⟩
theorem Mid.upd {G G' H H' : Hp} {p : Addr} {ys zs : List V} (m : Mid G G' H H') (h : H' p = some (.lst ys)) (g : G p = none) (g' : G' p ≠ none) : Mid G G' H (L2.upd H' p (.lst zs)) := by
  refine ⟨fun b o hb hk => ?_, fun b hb => ?_⟩
  · have := m.keep b o hb hk
    by_cases e : b = p
    · rw [e] at this hk
      rcases hk with z | z | z
      · exact absurd z g'
      · exact absurd g z
      · rw [h] at this
        exact absurd (Option.some.inj this).symm (z ys)
    · rw [upd_ne e]
      exact this
  · by_cases e : b = p
    · rw [e, upd_same] at hb
      cases hb
    · rw [upd_ne e] at hb
      exact m.dom b hb
theorem RunO.mid {C : Addr} {G G' H0 H H' : Hp} {p : Addr} {n : Nat} {Ls : List Lay} (h : RunO C H0 H p n Ls) (m : Mid G G' H H') (f : ∀ b, H0 b = none → G' b = none) : RunO C H0 H' p n Ls := by
  obtain ⟨g, dx, l, us, h1, h2, h3⟩ := h
  refine ⟨fun x hx => g x (m.dom x hx), dx, l, us, m.keep _ _ h1 (.inr (.inr fun _ z => nomatch z)), h2, m.keep _ _ h3.1 (.inl (f _ h2)), h3.2.1, fun i v L x y => ?_, h3.2.2.2⟩
  have hv := List.mem_of_getElem? x
  have := h3.2.2.1 i v L x y
  cases L with
  | pol ns => obtain ⟨z, e, q⟩ := this; subst e; exact ⟨z, rfl, m.keep _ _ q (.inl (f _ (h3.2.2.2 z hv).2))⟩
  | con w n => obtain ⟨z, e, q⟩ := this; subst e; exact ⟨z, rfl, m.keep _ _ q (.inl (f _ (h3.2.2.2 z hv).2))⟩
theorem RunO.chg {C C' dx : Addr} {fs : List (Str × V)} {H0 H H' : Hp} {x y : Addr} {n : Nat} {Ls : List Lay} (h : RunO C H0 H y n Ls) (c : Chg x H H') (hx : H x = some (.ins C' dx fs)) (ne : y ≠ x) (hx' : H' x ≠ none) : RunO C H0 H' y n Ls := by
  have keep : ∀ b o, (∀ C dx fs, o ≠ .ins C dx fs) → H b = some o → H' b = some o := fun b o no h => c.get h fun z => by rw [z, hx] at h; cases h; exact no _ _ _ rfl
  obtain ⟨g, dx, l, us, h1, h2, h3⟩ := h
  refine ⟨fun b hb => g b ?_, dx, l, us, c.get h1 ne, h2, keep _ _ (fun _ _ _ z => nomatch z) h3.1, h3.2.1, fun i v L x y => ?_, h3.2.2.2⟩
  · cases e : H b with
    | none => rfl
    | some o =>
      by_cases bx : b = x
      · rw [bx] at hb
        exact absurd hb hx'
      · rw [c.get e bx] at hb
        cases hb
  have := h3.2.2.1 i v L x y
  cases L with
  | pol ns => obtain ⟨z, e, q⟩ := this; exact ⟨z, e, keep _ _ (fun _ _ _ z => nomatch z) q⟩
  | con w n => obtain ⟨z, e, q⟩ := this; exact ⟨z, e, keep _ _ (fun _ _ _ z => nomatch z) q⟩
theorem RunO.rebase {C : Addr} {H0 H H' : Hp} {p z : Addr} {o : HO} {n : Nat} {Ls : List Lay} (h : RunO C H0 H p n Ls) (hz : H z = none) (s : Same H H') (hz' : H' z = some o) : RunO C (L2.upd H0 z o) H' p n Ls := by
  obtain ⟨g, dx, l, us, h1, h2, h3⟩ := h
  have lz : l ≠ z := fun e => by
    have := h3.1
    rw [e, hz] at this
    cases this
  have hL : Lays H us (nfL Ls) := ⟨h3.2.1, h3.2.2.1⟩
  refine ⟨fun x hx => ?_, dx, l, us, s _ _ h1, by rw [upd_ne lz]; exact h2, s _ _ h3.1, h3.2.1, (hL.same s).2, fun x hx => ⟨(h3.2.2.2 x hx).1, ?_⟩⟩
  · have xz : x ≠ z := fun e => by rw [e, hz'] at hx; cases hx
    rw [upd_ne xz]
    exact g x (s.free hx)
  · have xz : x ≠ z := fun e => by
      obtain ⟨y, o', e', ho⟩ := hL.ref hx
      cases e'
      rw [e, hz] at ho
      cases ho
    rw [upd_ne xz]
    exact (h3.2.2.2 x hx).2
theorem RunO.put {C : Addr} {H0 H : Hp} {p z : Addr} {o o' : HO} {xs : List V} {n : Nat} {Ls : List Lay} (h : RunO C H0 H p n Ls) (hz0 : H0 z = some o) (hz : H z = some (.lst xs)) : RunO C H0 (L2.upd H z o') p n Ls := by
  obtain ⟨g, dx, l, us, h1, h2, h3⟩ := h
  have lz : l ≠ z := fun e => by rw [e, hz0] at h2; cases h2
  have pz : p ≠ z := fun e => by rw [e, hz] at h1; cases h1
  have hL : Lays H us (nfL Ls) := ⟨h3.2.1, h3.2.2.1⟩
  refine ⟨fun x hx => ?_, dx, l, us, by rw [upd_ne pz]; exact h1, h2, by rw [upd_ne lz]; exact h3.1, h3.2.1, (hL.carry fun x o hx ho => ?_).2, h3.2.2.2⟩
  · have xz : x ≠ z := fun e => by rw [e, upd_same] at hx; cases hx
    rw [upd_ne xz] at hx
    exact g x hx
  · have xz : x ≠ z := fun e => by
      have := (h3.2.2.2 x hx).2
      rw [e, hz0] at this
      cases this
    rw [upd_ne xz]
    exact ho
theorem Rdv.mid {a : Addr} {c n : Int} {G G' H H1 H2 : Hp} (x : Rdv a c H H1) (s : Rng H a n) (m : Mid G G' H1 H2) (f : ∀ b, G b = none → H b = none) : Rdv a c H H2 := by
  refine ⟨fun b o h => ?_, fun k t => ?_⟩
  · obtain ⟨h1, h2, h3⟩ := hid_get h
    exact hid_at (m.keep _ _ (hid_get (x.same b o h)).1 (.inr (.inl fun z => by rw [f b z] at h1; cases h1))) h2 h3
  · obtain ⟨dg, seed, cnt, q, r⟩ := x.src k t
    obtain ⟨_, _, _, q0, _⟩ := s
    exact ⟨dg, seed, cnt, m.keep _ _ q (.inr (.inl fun z => by rw [f a z] at q0; cases q0)), r⟩
/-- an item of the list that is passed on -/
def Given (G H : Hp) (z : V) : Prop := (∃ y xs, z = .ref y ∧ H y = some (.lst xs) ∧ xs.length ≤ 100 ∧ G y = none) ∨ (∃ y xs, z = .ref y ∧ H y = some (.tup xs))
theorem Given.same {G H H' : Hp} {z : V} (h : Given G H z) (s : Same H H') : Given G H' z := by
  rcases h with ⟨y, xs, e, h1, h2, h3⟩ | ⟨y, xs, e, h1⟩
  · exact .inl ⟨y, xs, e, s _ _ h1, h2, h3⟩
  · exact .inr ⟨y, xs, e, s _ _ h1⟩
/-- the same, with how long the lists may have grown -/
def Mut (G G' H : Hp) (N : Nat) (z : V) : Prop := (∃ y xs, z = .ref y ∧ H y = some (.lst xs) ∧ xs.length ≤ N ∧ G y = none ∧ G' y ≠ none) ∨ (∃ y xs, z = .ref y ∧ H y = some (.tup xs))
theorem Given.mut {G H : Hp} {z : V} (h : Given G H z) : Mut G H H 100 z := by
  rcases h with ⟨y, xs, e, h1, h2, h3⟩ | ⟨y, xs, e, h1⟩
  · exact .inl ⟨y, xs, e, h1, h2, h3, fun q => by rw [h1] at q; cases q⟩
  · exact .inr ⟨y, xs, e, h1⟩
theorem Mut.same {G G' H H' : Hp} {N : Nat} {z : V} (h : Mut G G' H N z) (s : Same H H') : Mut G G' H' N z := by
  rcases h with ⟨y, xs, e, h1, h2, h3⟩ | ⟨y, xs, e, h1⟩
  · exact .inl ⟨y, xs, e, s _ _ h1, h2, h3⟩
  · exact .inr ⟨y, xs, e, s _ _ h1⟩
theorem Mut.put {G G' H : Hp} {N : Nat} {z v : V} {p : Addr} {ys : List V} (h : Mut G G' H N z) (hp : H p = some (.lst ys)) (hl : ys.length ≤ N) (g : G p = none) (g' : G' p ≠ none) : Mut G G' (L2.upd H p (.lst (ys ++ [v]))) (N + 1) z := by
  rcases h with ⟨y, xs, e, h1, h2, h3⟩ | ⟨y, xs, e, h1⟩
  · by_cases yp : y = p
    · subst yp
      exact .inl ⟨y, _, e, upd_same, by rw [List.length_append]; exact Nat.succ_le_succ hl, g, g'⟩
    · exact .inl ⟨y, xs, e, by rw [upd_ne yp]; exact h1, Nat.le_succ_of_le h2, h3⟩
  · exact .inr ⟨y, xs, e, by rw [upd_ne (fun z => by rw [z, hp] at h1; cases h1)]; exact h1⟩
theorem Mut.succ {G G' H : Hp} {N : Nat} {z : V} (h : Mut G G' H N z) : Mut G G' H (N + 1) z := by
  rcases h with ⟨y, xs, e, h1, h2, h3⟩ | ⟨y, xs, e, h1⟩
  · exact .inl ⟨y, xs, e, h1, Nat.le_succ_of_le h2, h3⟩
  · exact .inr ⟨y, xs, e, h1⟩
def sp_law_right (K : PySem.W.Frag) : Sp := fun vs H Q _ => ∃ (a : Addr) (n : Int), vs = [.ref a] ∧ Rng H a n ∧ n ≤ 100000 ∧ ∀ H', Rdv a 1000 H H' → Q (.bl true) H'
theorem ok_law_right (T : Txt P K mg) : FnOk P w K mg base CX0 9 T.f_law_right T.d_law_right ["pool"] (sp_law_right K) := by
  have G_law_draw := (ok_law_draw (P := P) (w := w) (base := base) T).mono (by decide : 1 ≤ 8)
  have G_law_small := (ok_law_small (P := P) (w := w) (base := base) T).mono (by decide : 4 ≤ 8)
  have G_law_rewritten := (ok_law_rewritten (P := P) (w := w) (base := base) T).mono (by decide : 2 ≤ 8)
  have G_law_flat := (ok_law_flat (P := P) (w := w) (base := base) T).mono (by decide : 1 ≤ 8)
  have G_Runner_init := (ok_Runner_init (P := P) (w := w) (base := base) T)
  have G_Runner_eq := (ok_Runner_eq (P := P) (w := w) (base := base) T).mono (by decide : 1 ≤ 8)
  have G_Runner_eq2 := (ok_Runner_eq (P := P) (w := w) (base := base) T).mono (by decide : 1 ≤ 7)
  have G_Runner_left := (ok_Runner_left (P := P) (w := w) (base := base) T).mono (by decide : 5 ≤ 8)
  have G_Runner_fail := (ok_Runner_fail0 (P := P) (w := w) (base := base) T).mono (by decide : 6 ≤ 8)
  have G_Runner_wrap := (ok_Runner_wrap0 (P := P) (w := w) (base := base) T).mono (by decide : 7 ≤ 8)
  refine T.F_law_right.ok sc_law_right (fun vs H Q E h => ?_) (fun cdv A outer s H vs Q E hr h => ?_)
  · obtain ⟨a, n, rfl, _⟩ := h
    rfl
  obtain ⟨a, n, rfl, hS, hn, q⟩ := h
  refine ⟨_, (pss_cons (ps_set (i := 1) sc_law_right.nd rfl (Or.inl rfl) (pe_slice sl_list (pe_call G_law_small hr (by rfl) T.g_law_small T.F_law_small.kp T.b_law_small .nil pass0 (pa_cons (pv 0) (pa_cons pe_int pa_nil))) po_none (po_some pe_int)))
      (pss_cons (ps_set (i := 2) sc_law_right.nd rfl (Or.inl rfl) (pe_call G_law_rewritten hr (by rfl) T.g_law_rewritten T.F_law_rewritten.kp T.b_law_rewritten .nil pass0 (pa_cons (pv 0) (pa_cons (pv 1) pa_nil))))
      (pss_cons (ps_setLc (i := 3) (own := [("tier", 8)]) (g := gName 8) (tt := tYes) rfl sc_law_right.nd rfl rfl (sw_true rfl rfl rfl (by decide +kernel)) (pi_list (pv 1)) (blkOk_by (N := ["pool", "layers", "other", "given", "one", "two", "waits", "others", "tier", "steps", "due", "extra"]) (sc := defScope s_law_right) (by decide +kernel)) (fun _ _ _ _ _ => (pg_name (i := 8) sc_law_right.nd rfl (Or.inl rfl))) (fun _ _ _ _ _ => pts_nil) (fun _ _ _ _ _ => (pe_ifExp (pt_val (pe_callB (call_isiK1 (K := K) rfl) (by rfl) T.m_isinstance (by decide +kernel) (pa_cons (pv 8) (pa_cons (pe_bltn (v := .ty "list") (by rfl) T.m_list (by decide +kernel) rfl) pa_nil)))) (pe_callTy (call_list_ofK (K := K) rfl) (by rfl) T.m_list (by decide +kernel) (pa_cons (pv 8) pa_nil)) (pv 8))))
      (pss_cons (ps_par (i := 4) (j := 5) (by rfl) sc_law_right.nd rfl rfl (by decide) rfl rfl (pa_cons (pe_makeK0 T.mk_Runner G_Runner_init hr (by rfl) T.g_Runner T.kn_Runner_init pass0 (pk_cons (pv 3) pk_nil)) (pa_cons (pe_make T.mk_Runner G_Runner_init hr (by rfl) T.g_Runner T.b_Runner_init .nil pass0 (pa_cons (pv 2) pa_nil)) pa_nil)) (by rfl))
      (pss_cons (ps_par (i := 6) (j := 7) (by rfl) sc_law_right.nd rfl rfl (by decide) rfl rfl (pa_cons (pe_call G_law_flat hr (by rfl) T.g_law_flat T.F_law_flat.kp T.b_law_flat .nil pass0 (pa_cons (pv 1) pa_nil)) (pa_cons (pe_call G_law_flat hr (by rfl) T.g_law_flat T.F_law_flat.kp T.b_law_flat .nil pass0 (pa_cons (pv 2) pa_nil)) pa_nil)) (by rfl))
      (pss_cons (ps_expr (pe_bm PySem.F.plainAttrs_list PySem.F.slot_list_append PySem.F.type_list_append mt_append (pv 3) (pa_cons (pe_tup (pa_cons pe_int (pa_cons pe_int pa_nil))) pa_nil)))
      (pss_cons (ps_for PassesOwn.never rfl (pi_list (pv 3)) (pg_name (i := 8) sc_law_right.nd rfl (Or.inl rfl))
      (pss_one (ps_if (pt_val (pe_callB call_isi (by rfl) T.m_isinstance (by decide +kernel) (pa_cons (pv 8) (pa_cons (pe_bltn (v := .ty "list") (by rfl) T.m_list (by decide +kernel) rfl) pa_nil))))
      (pss_one (ps_expr (pe_bm PySem.F.plainAttrs_list PySem.F.slot_list_append PySem.F.type_list_append mt_append (pv 8) (pa_cons pe_int pa_nil))))
      pss_nil)))
      (pss_cons (ps_set (i := 9) sc_law_right.nd rfl (Or.inl rfl) (pe_lst (pa_cons (pe_call G_law_draw hr (by rfl) T.g_law_draw T.F_law_draw.kp T.b_law_draw .nil pass0 (pa_cons (pv 0) (pa_cons (pe_op op_add (pe_callB call_len_seq (by rfl) T.m_len PySem.boot_len (pa_cons (pv 6) pa_nil)) pe_int) pa_nil))) (pa_cons (pe_call G_law_draw hr (by rfl) T.g_law_draw T.F_law_draw.kp T.b_law_draw .nil pass0 (pa_cons (pv 0) (pa_cons (pe_op op_add (pe_callB call_len_seq (by rfl) T.m_len PySem.boot_len (pa_cons (pv 7) pa_nil)) pe_int) pa_nil))) pa_nil))))
      (pss_cons (ps_asg (pe_cutE (pe_ifExp (pt_cmpR op_le (pe_ix ix_list (pv 9) pe_int (fun _ _ => rfl)) (pe_callB call_len_seq (by rfl) T.m_len PySem.boot_len (pa_cons (pv 7) pa_nil)) (nomark _)) (pe_ix ix_list (pv 9) (pe_call G_law_draw hr (by rfl) T.g_law_draw T.F_law_draw.kp T.b_law_draw .nil pass0 (pa_cons (pv 0) (pa_cons pe_int pa_nil))) (fun _ _ => rfl)) (pe_ix ix_list (pv 9) pe_int (fun _ _ => rfl)))) (pg_sub (pv 9) pe_int set_list))
      (pss_cons (ps_expr (pe_methK (pv 4) T.cl_Runner T.me_Runner_fail G_Runner_fail hr T.kn_Runner_fail pass0 (pk_cons (pe_ix ix_list (pv 9) pe_int (fun _ _ => rfl)) pk_nil)))
      (pss_cons (ps_expr (pe_meth (pv 5) T.cl_Runner T.me_Runner_fail G_Runner_fail hr T.b_Runner_fail .nil pass0 (pa_cons (pe_ix ix_list (pv 9) pe_int (fun _ _ => rfl)) pa_nil)))
      (pss_cons (ps_set (i := 10) sc_law_right.nd rfl (Or.inl rfl) (pe_cutE (pe_and (pe_cmpR (op_eqD hr.units) (pv 6) (pv 7) (nomark _)) (pe_one (pe_cmpR op_eq (pe_ix ix_list (pv 9) pe_int (fun _ _ => rfl)) (pe_ix ix_list (pv 9) pe_int (fun _ _ => rfl)) (nomark _))))))
      (pss_cons (ps_if (PW.pt (pw_or (pt_cmpR op_ne (pe_cmpR (op_eqI T.eq_Runner G_Runner_eq hr T.b_Runner_eq pass0) (pv 4) (pv 5) (nomark _)) (pv 10) (nomark _)) (pw_or (pt_cmpR op_eq (pe_cmpR (op_neI T.eq_Runner G_Runner_eq2 hr T.b_Runner_eq pass0) (pv 5) (pv 4) (nomark _)) (pv 10) (nomark _)) (pw_or1 (pt_cmpR op_ne (pe_meth0 (pv 4) T.cl_Runner T.me_Runner_left G_Runner_left hr T.b_Runner_left .nil pass0) (pe_op op_sub (pe_callB call_len_seq (by rfl) T.m_len PySem.boot_len (pa_cons (pv 6) pa_nil)) (pe_ix ix_list (pv 9) pe_int (fun _ _ => rfl))) (nomark _))))))
      (pss_one (ps_ret pe_bl))
      pss_nil)
      (pss_cons (ps_set (i := 11) sc_law_right.nd rfl (Or.inl rfl) (pe_lst (pa_cons pe_int pa_nil)))
      (pss_cons (ps_expr (pe_meth (pv 5) T.cl_Runner T.me_Runner_wrap G_Runner_wrap hr T.b_Runner_wrap .nil pass0 (pa_cons (pv 11) pa_nil)))
      (pss_cons (ps_expr (pe_bm PySem.F.plainAttrs_list PySem.F.slot_list_append PySem.F.type_list_append mt_append (pv 11) (pa_cons pe_int pa_nil)))
      (pss_cons (ps_expr (pe_methK (pv 5) T.cl_Runner T.me_Runner_wrap G_Runner_wrap hr T.kn_Runner_wrap pass0 (pk_cons (pe_tup (pa_cons pe_int (pa_cons pe_int pa_nil))) pk_nil)))
      (pss_cons (ps_if (PW.pt (pw_or (pt_cmpR op_ne (pe_meth0 (pv 5) T.cl_Runner T.me_Runner_left G_Runner_left hr T.b_Runner_left .nil pass0) (pe_op op_sub (pe_op op_add (pe_op op_mul pe_int (pe_callB call_len_seq (by rfl) T.m_len PySem.boot_len (pa_cons (pv 7) pa_nil))) pe_int) (pe_ix ix_list (pv 9) pe_int (fun _ _ => rfl))) (nomark _)) (pw_or1 (pt_cmpR (op_eqI T.eq_Runner G_Runner_eq hr T.b_Runner_eq pass0) (pv 4) (pv 5) (nomark _)))))
      (pss_one (ps_ret pe_bl))
      pss_nil)
      (pss_one (ps_ret (pe_cmpR (op_notInI T.eq_Runner T.nk_Runner G_Runner_eq2 hr T.b_Runner_eq pass0) (pv 4) (pe_lst (pa_cons pe_non (pa_cons (pv 1) (pa_cons (pe_ix ix_list (pv 9) pe_int (fun _ _ => rfl)) (pa_cons pe_str (pa_cons pe_int pa_nil)))))) rfl))))))))))))))))))))), ?_⟩
  have hSa : ∃ o, H a = some o := by obtain ⟨_, _, _, e, _⟩ := hS; exact ⟨_, e⟩
  have nl : ∀ (l : Addr) (n : Nat) (m : Str), ¬ m = "_attempt" → ¬ m = "_nesting" → (runF l (n : Int)).lookup m = none := fun l n m h1 h2 => runF_no _ _ h1 h2
  -- layers
  refine ⟨_, rfl, a, _, 200, rfl, hS, by omega, by decide, by decide, fun H1 p0 us0 Ls0 A1 f1 v1 l1 n1 t1 => ?_⟩
  have S1 := A1.src _ hS
  refine ⟨4, rfl, p0, us0, rfl, sql (hid_get v1.1).1, fun b hb => ?_⟩
  rw [show (4 : Int) = ((4 : Nat) : Int) from rfl, cut_n]
  have sb := same_new (o := .lst (us0.take 4)) hb
  have nb := S1.new1 hb
  have Nb : NestAt (hid a a (upd H1 b (.lst (us0.take 4)))) b (Ls0.take 4) := ((v1.lays.take 4).same (hid_same sb)).nest (by rw [hid_oth nb nb, upd_same])
  generalize upd H1 b (.lst (us0.take 4)) = H2 at *
  have S2 := S1.same sb
  have A2 : Rdv a 600 H H2 := (A1.trans (Rdv.of sb) (Int.le_refl _)).mono (by omega)
  have nice0 : ∀ L ∈ Ls0.take 4, L.nice ∧ L.cnt ≤ 30 := fun L hL => n1 L (List.mem_of_mem_take hL)
  have len0 : (Ls0.take 4).length ≤ 4 := List.length_take_le 4 Ls0
  have dr0 : Drawn (Ls0.take 4) := ⟨fun L hL => (nice0 L hL).1, by omega⟩
  have att0 : attOf (Ls0.take 4) ≤ 200 := by
    have := (attOf_part (Ls0.take 4) (Ls0.drop 4) (fun L hL => (n1 L (List.mem_of_mem_drop hL)).1.1) dr0.ok).2
    rw [List.take_append_drop] at this
    omega
  generalize Ls0.take 4 = La at *
  -- other
  refine ⟨_, rfl, _, rfl, a, b, _, La, rfl, S2, by omega, Nb, nice0, len0, att0, fun H3 r Ms A3 nr nm mm ma mo => ?_⟩
  have drM : Drawn Ms := ⟨nm, by omega⟩
  have S3 := A3.src _ S2
  have Nb3 := Nb.same A3.same
  have A3T := A2.trans A3 (Int.le_refl _)
  have fG : ∀ z, H3 z = none → H z = none := fun z hz => A3T.free hS hz
  obtain ⟨ub, eb, lub, atb⟩ := id Nb3
  have Lb : Lays (hid a a H3) ub La := ⟨lub, atb⟩
  -- given
  refine ⟨_, rfl, b, rfl, ⟨ub, sql (hid_get eb).1⟩, fun D hD => ?_⟩
  have Da := S3.new1 hD
  refine lc_list (K := K) (xs := ub) (fun i H' => Same H3 H' ∧ ∃ zs, H' D = some (.lst zs) ∧ Lays H' zs (La.take i) ∧ (∀ z ∈ zs, Given H3 H' z) ∧ ∀ x, V.ref x ∈ zs → x ≠ D)
    ⟨same_new hD, [], upd_same, Lays.none _, (fun _ z => nomatch z), (fun _ z => nomatch z)⟩ (fun i H' _ h => sql (h.1 _ _ (hid_get eb).1)) (fun i v H5 hx h => ?_) (fun H4 h => ?_)
  · obtain ⟨sm, zs, eD, lz, gz, zD⟩ := h
    have hi : i < La.length := by
      rw [← lub]
      exact (List.getElem?_eq_some_iff.mp hx).1
    have hi' := List.getElem?_eq_getElem hi
    have et : La.take (i + 1) = La.take i ++ [La[i]] := by
      rw [List.take_add_one, hi']
      rfl
    have hL := (atb i v _ hx hi').same (hid_same sm)
    have nL := nice0 _ (List.getElem_mem hi)
    have lzs : zs.length ≤ 4 := by rw [lz.1, List.length_take]; omega
    have S5 := S3.same sm
    generalize La[i] = L at *
    rw [et]
    have done : ∀ (y : Addr) (H6 : Hp), Same H5 H6 → LayAt H6 (.ref y) L → y ≠ D → Given H3 H6 (.ref y) → H6 D = some (.lst zs) → (Same H3 (upd H6 D (.lst (zs ++ [.ref y]))) ∧ ∃ zs', upd H6 D (.lst (zs ++ [.ref y])) D = some (.lst zs') ∧ Lays (upd H6 D (.lst (zs ++ [.ref y]))) zs' (La.take i ++ [L]) ∧ (∀ z ∈ zs', Given H3 (upd H6 D (.lst (zs ++ [.ref y]))) z) ∧ ∀ x, V.ref x ∈ zs' → x ≠ D) := fun y H6 s6 hy yD gy e6 => by
      have nb : ∀ x, V.ref x ∈ zs ++ [V.ref y] → x ≠ D := fun x hx => (List.mem_append.mp hx).elim (zD x) fun z => by
        have := List.mem_singleton.mp z
        injection this with this
        rw [this]
        exact yD
      have gput : ∀ z, (∀ x, z = V.ref x → x ≠ D) → Given H3 H6 z → Given H3 (upd H6 D (.lst (zs ++ [.ref y]))) z := fun z ne h => by
        rcases h with ⟨y', xs, e, h1, h2, h3⟩ | ⟨y', xs, e, h1⟩
        · exact .inl ⟨y', xs, e, by rw [upd_ne (ne _ e)]; exact h1, h2, h3⟩
        · exact .inr ⟨y', xs, e, by rw [upd_ne (ne _ e)]; exact h1⟩
      refine ⟨same_keep (sm.trans s6) hD, _, upd_same, ((lz.same s6).app (.cons hy (Lays.none _))).carry fun x o hx ho => by rw [upd_ne (nb x hx)]; exact ho, fun z hz => gput z (fun x e => nb x (e ▸ hz)) ?_, nb⟩
      rcases List.mem_append.mp hz with q | q
      · exact (gz z q).same s6
      · rw [List.mem_singleton.mp q]
        exact gy
    have oldD : ∀ x o, H3 x = some o → x ≠ D := fun x o ho z => by rw [z, hD] at ho; cases ho
    cases L with
    | con wt m =>
      obtain ⟨x, rfl, hp⟩ := hL
      have hp := (hid_get hp).1
      have x0 : x ≠ D := fun z => by
        obtain ⟨o, ho⟩ : ∃ o, H3 x = some o := by
          obtain ⟨y, o, e, ho⟩ := Lb.ref (List.mem_of_getElem? hx)
          cases e
          exact ⟨o, (hid_get ho).1⟩
        exact oldD _ _ ho z
      refine ⟨rfl, _, rfl, _, _, _, _, false, rfl, .ty "list", .base (.tup hp), kit_ty (by decide +kernel), false, rfl, iteF ⟨_, rfl, zs, eD, size_lt (by omega), done x H5 (Same.refl _) ⟨x, rfl, hp⟩ x0 (.inr ⟨x, _, rfl, hp⟩) eD⟩⟩
    | pol ks =>
      obtain ⟨x, rfl, hp⟩ := hL
      have hp := (hid_get hp).1
      have k60 : ks.length ≤ 60 := nL.1.2.1
      refine ⟨rfl, _, rfl, _, _, _, _, true, rfl, .ty "list", .base (.lst hp), kit_ty (by decide +kernel), true, rfl, iteT ⟨_, rfl, x, _, rfl, .inl (sql hp), fun y hy => ?_⟩⟩
      have sy := same_new (o := .lst (ks.map V.int)) hy
      have yD : y ≠ D := fun z => by rw [z, eD] at hy; cases hy
      have y3 : H3 y = none := sm.free hy
      exact ⟨zs, sy _ _ eD, size_lt (by omega), done y _ sy ⟨y, rfl, upd_same⟩ yD (.inl ⟨y, _, rfl, upd_same, by rw [List.length_map]; omega, y3⟩) (sy _ _ eD)⟩
  obtain ⟨s34, zs, eD, lz, gz, zD⟩ := h
  rw [lub, List.take_length] at lz
  have ND : NestAt H4 D La := lz.nest eD
  have S4 := S3.same s34
  have A4 := A3T.trans (Rdv.of s34) (Int.le_refl _)
  have xnew : ∀ z, H4 z = none → H z = none := fun z hz => A4.free hS hz
  -- one, two
  refine ⟨_, rfl, rfl, rfl, fun x dx nx ndx nex => ?_⟩
  have sx : Same H4 (upd (upd H4 dx (.own x)) x (.ins T.C_Runner dx [])) := (same_new ndx).trans (same_new (by rw [upd_ne nex.symm]; exact nx))
  have ex := upd_same (H := upd H4 dx (.own x)) (a := x) (o := .ins T.C_Runner dx [])
  generalize upd (upd H4 dx (.own x)) x (.ins T.C_Runner dx []) = H5 at *
  have xH := xnew _ nx
  refine ⟨x, dx, D, La, rfl, ex, ND.same sx, dr0.fit, fun H6 c6 r6 => ⟨rfl, ?_⟩⟩
  have s46 : Same H4 H6 := Chg.new sx c6 nx
  have hx6 : H6 x ≠ none := by
    obtain ⟨_, _, h6⟩ := r6.ins
    rw [h6]
    exact fun z => nomatch z
  refine ⟨_, rfl, fun y dy ny ndy ney => ?_⟩
  have sy : Same H6 (upd (upd H6 dy (.own y)) y (.ins T.C_Runner dy [])) := (same_new ndy).trans (same_new (by rw [upd_ne ney.symm]; exact ny))
  have ey := upd_same (H := upd H6 dy (.own y)) (a := y) (o := .ins T.C_Runner dy [])
  generalize upd (upd H6 dy (.own y)) y (.ins T.C_Runner dy []) = H7 at *
  have n4 : ∀ z, H6 z = none → H4 z = none := fun z hz => s46.free hz
  have yH := xnew _ (n4 _ ny)
  have Nr3 := nest_hid nr
  refine ⟨y, dy, r, Ms, rfl, ey, Nr3.same (s34.trans (s46.trans sy)), drM.fit, fun H8 c8 r8 => ⟨rfl, _, _, rfl, ?_⟩⟩
  have s68 : Same H6 H8 := Chg.new sy c8 ny
  have s48 := s46.trans s68
  have f8 : ∀ z, H8 z = none → H4 z = none := fun z hz => s48.free hz
  have r6 := r6.same s68
  -- waits, others
  refine ⟨_, rfl, b, La, rfl, (nest_hid Nb3).same (s34.trans s48), dr0.ok, by omega, by omega, fun H9 w1 s9 f9 e9 => ?_⟩
  refine ⟨_, rfl, r, Ms, rfl, Nr3.same (s34.trans (s48.trans s9)), drM.ok, by omega, by omega, fun H10 w2 s10 f10 e10 => ⟨_, _, rfl, ?_⟩⟩
  have e9 := s10 _ _ e9
  have w1f := f8 _ f9
  have w2f := f8 _ (s9.free f10)
  have s810 := s9.trans s10
  have s410 := s48.trans s810
  have r6 := r6.same s810
  have r8 := r8.same s810
  have A10 := A4.trans (Rdv.of s410) (Int.le_refl _)
  -- given.append
  refine ⟨_, rfl, .inl ⟨rfl, _, sql (s410 _ _ eD)⟩, size_le (by show 2 ≤ 100000; decide), fun t ht => ?_⟩
  have st := same_new (o := .tup [.int 1, .int 5]) ht
  have ett := upd_same (H := H10) (a := t) (o := .tup [.int 1, .int 5])
  generalize upd H10 t (.tup [.int 1, .int 5]) = H11 at *
  have s411 := s410.trans st
  have eD11 := s411 _ _ eD
  have tD : t ≠ D := fun z => by rw [z, eD11] at ett; cases ett
  have lzs : zs.length ≤ 4 := by rw [lz.1]; exact len0
  have D4 : H4 D ≠ none := fun z => by rw [eD] at z; cases z
  refine ⟨D, zs, .ref t, rfl, rfl, eD11, size_lt (by omega), ?_⟩
  have md0 : Mid H3 H4 H11 (upd H11 D (.lst (zs ++ [.ref t]))) := Mid.refl.upd eD11 hD D4
  have eD12 := upd_same (H := H11) (a := D) (o := .lst (zs ++ [.ref t]))
  have items : ∀ z ∈ zs ++ [V.ref t], Mut H3 H4 (upd H11 D (.lst (zs ++ [.ref t]))) 101 z ∧ ∀ y, z = V.ref y → y ≠ D := fun z hz => by
    rcases List.mem_append.mp hz with q | q
    · exact ⟨((gz z q).mut.same s411).put eD11 (by omega) hD D4, fun y e => zD y (e ▸ q)⟩
    · rw [List.mem_singleton.mp q]
      exact ⟨.inr ⟨t, _, rfl, by rw [upd_ne tD]; exact ett⟩, fun y e => by injection e with e; rw [← e]; exact tD⟩
  generalize upd H11 D (.lst (zs ++ [.ref t])) = H12 at *
  have llen : (zs ++ [V.ref t]).length ≤ 5 := by rw [List.length_append]; show zs.length + 1 ≤ 5; omega
  generalize zs ++ [V.ref t] = gs at *
  refine ⟨_, rfl, D, rfl, ⟨_, sql eD12⟩, for_list (xs := gs) (fun i σ H' => ∃ z8, σ = [some (.ref a), some (.ref b), some (.ref r), some (.ref D), some (.ref x), some (.ref y), some (.ref w1), some (.ref w2), z8, none, none, none] ∧ Mid H3 H4 H11 H' ∧ H' D = some (.lst gs) ∧ ∀ z ∈ gs, Mut H3 H4 H' (101 + i) z ∧ ∀ y, z = V.ref y → y ≠ D)
    ⟨none, rfl, md0, eD12, items⟩ (fun i σ H' _ h => by obtain ⟨_, _, _, e, _⟩ := h; exact sql e) (fun i v σ Hl hv h => ?_) (fun σ Hm h => ?_)⟩
  · obtain ⟨z8, rfl, md, eDl, itl⟩ := h
    have hi : i < 5 := by
      have := (List.getElem?_eq_some_iff.mp hv).1
      omega
    obtain ⟨mu, vD⟩ := itl v (List.mem_of_getElem? hv)
    rcases mu with ⟨z, xs, rfl, h1, h2, h3, h4⟩ | ⟨z, xs, rfl, h1⟩
    · refine ⟨_, rfl, _, _, _, _, true, rfl, .ty "list", .base (.lst h1), kit_ty (by decide +kernel), true, rfl, iteT ?_⟩
      refine ⟨_, rfl, .inl ⟨rfl, _, sql h1⟩, z, xs, _, rfl, rfl, h1, size_lt (by omega), _, rfl, md.upd h1 h3 h4, by rw [upd_ne (Ne.symm (vD z rfl))]; exact eDl, fun w hw => ⟨(itl w hw).1.put h1 h2 h3 h4, (itl w hw).2⟩⟩
    · exact ⟨_, rfl, _, _, _, _, false, rfl, .ty "list", .base (.tup h1), kit_ty (by decide +kernel), false, rfl, iteF ⟨_, rfl, md, eDl, fun w hw => ⟨(itl w hw).1.succ, (itl w hw).2⟩⟩⟩
  obtain ⟨z8, rfl, md, _, _⟩ := h
  have A11 : Rdv a 800 H H11 := (A10.trans (Rdv.of st) (Int.le_refl _)).mono (by omega)
  have Am : Rdv a 800 H Hm := A11.mid hS md fG
  have Sm := Am.src _ hS
  have rx := (r6.same st).mid md fun b hb => sx.free hb
  have ry := (r8.same st).mid md fun b hb => n4 b (sy.free hb)
  have E1 := md.keep _ _ (st _ _ e9) (.inl w1f)
  have E2 := md.keep _ _ (st _ _ e10) (.inl w2f)
  have Eb := md.keep _ _ (s411 _ _ (s34 _ _ (hid_get eb).1)) (.inr (.inl fun z => by rw [(hid_get eb).1] at z; cases z))
  have n1 : ∀ z, H z = none → z ≠ a := fun z hz e => by obtain ⟨o, ho⟩ := hSa; rw [e, ho] at hz; cases hz
  have w1a := n1 _ (xnew _ w1f)
  have w2a := n1 _ (xnew _ w2f)
  have ba := (hid_get eb).2.1
  have x5a : ∃ o, H5 a = some o := by obtain ⟨_, _, _, e, _⟩ := S4.same sx; exact ⟨_, e⟩
  have x7a : ∃ o, H7 a = some o := by obtain ⟨_, _, _, e, _⟩ := (S4.same s46).same sy; exact ⟨_, e⟩
  have xy : y ≠ x := fun z => hx6 (z ▸ ny)
  clear md items r6 r8 A11 A10 A4 e9 e10
  have ae := dr0.attE
  have am := drM.attE
  have fl1 := flat_attN dr0.ok
  have fl2 := flat_attN drM.ok
  have lm1 : ((flatL La).map V.int).length = (flatL La).length := List.length_map ..
  have lm2 : ((flatL Ms).map V.int).length = (flatL Ms).length := List.length_map ..
  -- steps
  refine ⟨_, rfl, _, rfl, w1, _, rfl, .inl (sql E1), _, _, rfl, rfl, a, _, _, rfl, Sm, by omega, lim (by omega) (by omega), fun Hn s0 An l0 u0 => ?_⟩
  have Sn := An.src _ Sm
  have E2n := An.same _ _ (hid_at E2 w2a w2a)
  refine ⟨_, rfl, _, rfl, w2, _, rfl, .inl (sql (hid_get E2n).1), _, _, rfl, rfl, a, _, _, rfl, Sn, by omega, lim (by omega) (by omega), fun Ho s1 Ao l1 u1 => ⟨size_le (by show 2 ≤ 100000; decide), fun sp hsp => ?_⟩⟩
  have So := Ao.src _ Sn
  have ssp := same_new (o := .lst [.int s0, .int s1]) hsp
  have esp := upd_same (H := Ho) (a := sp) (o := .lst [.int s0, .int s1])
  have spa := So.new1 hsp
  generalize upd Ho sp (.lst [.int s0, .int s1]) = Hz at *
  have Sp := So.same ssp
  have Amp : Rdv a 2 Hm Hz := (An.trans (Ao.trans (Rdv.of ssp) (Int.le_refl _)) (Int.le_refl _))
  have E2p := Amp.same _ _ (hid_at E2 w2a w2a)
  obtain ⟨m0, rfl⟩ : ∃ m0 : Nat, s0 = (m0 : Int) := ⟨s0.toNat, by omega⟩
  obtain ⟨m1, rfl⟩ : ∃ m1 : Nat, s1 = (m1 : Int) := ⟨s1.toNat, by omega⟩
  -- steps[1]
  refine ⟨fun v H' => ∃ k : Nat, v = .int (k : Int) ∧ k < attN Ms ∧ Rdv a 1 Hz H', ?_, fun v Hq hq => ?_⟩
  · refine ⟨_, rfl, sp, _, 0, _, rfl, rfl, sql esp, rfl, _, rfl, w2, _, rfl, .inl (sql (hid_get E2p).1), _, _, rfl, rfl, _, rfl, ite2 (fun e => ?_) (fun e => ?_)⟩
    · have e := of_decide_eq_true e
      refine ⟨_, rfl, _, rfl, a, _, 2, rfl, Sp, by omega, lim (by decide) (by decide), fun Hq r5 A5 l5 u5 => ?_⟩
      obtain ⟨k, hk, _, hat⟩ := at_int (ns := [(m0 : Int), (m1 : Int)]) l5 u5
      refine ⟨sp, _, r5, .int k, rfl, rfl, sql (hid_get (A5.same _ _ (hid_at esp spa spa))).1, hat, k.toNat, ?_, ?_, A5⟩
      · simp only [List.mem_cons, List.not_mem_nil, or_false] at hk
        rw [Int.toNat_of_nonneg (by omega)]
      · simp only [List.mem_cons, List.not_mem_nil, or_false] at hk
        omega
    · exact ⟨_, rfl, sp, _, 1, _, rfl, rfl, sql esp, rfl, m1, rfl, by omega, Rdv.refl.mono (by decide)⟩
  obtain ⟨k, rfl, hk, Aq⟩ := hq
  have espq := (hid_get (Aq.same _ _ (hid_at esp spa spa))).1
  refine ⟨_, rfl, sp, _, 1, 1, rfl, rfl, espq, rfl, ?_⟩
  have Amu : Rdv a 3 Hm (upd Hq sp (.lst ([.int (m0 : Int), .int (m1 : Int)].set 1 (.int (k : Int))))) :=
    (An.trans (Ao.trans (((Rdv.of ssp).trans Aq (Int.le_refl _)).mut So hsp) (Int.le_refl _)) (Int.le_refl _)).mono (by omega)
  have esu : upd Hq sp (.lst ([.int (m0 : Int), .int (m1 : Int)].set 1 (.int (k : Int)))) sp = some (.lst [.int (m0 : Int), .int (k : Int)]) := upd_same
  generalize upd Hq sp (.lst ([.int (m0 : Int), .int (m1 : Int)].set 1 (.int (k : Int)))) = Hu at *
  have rxu := rx.draw Amu Sm x5a
  have ryu := ry.draw Amu Sm x7a
  have E1u := (hid_get (Amu.same _ _ (hid_at E1 w1a w1a))).1
  have E2u := (hid_get (Amu.same _ _ (hid_at E2 w2a w2a))).1
  have Ebu := (hid_get (Amu.same _ _ (hid_at Eb ba ba))).1
  have Au := Am.trans Amu (Int.le_refl _)
  clear rx ry E1 E2 Eb Amu Amp An Ao Aq E2n E2p esp espq
  obtain ⟨_, dxu, lxu, uxu, hxu, _, _⟩ := id rxu
  -- one.fail
  refine ⟨_, rfl, x, dxu, _, rfl, hxu, nl _ _ _ (by decide +kernel) (by decide +kernel), _, rfl, sp, _, 0, _, rfl, rfl, sql esu, rfl, rfl, H5, x, 0, m0, La, rfl, rxu, dr0, by omega, fun Hv cv rv => ?_⟩
  have lk : ∀ {H H' : Hp} {z b C dx fs xs}, Chg z H H' → H z = some (.ins C dx fs) → H b = some (.lst xs) → H' b = some (.lst xs) := fun c hz hb => c.get hb fun e => by rw [e, hz] at hb; cases hb
  have rvi := rv.ins
  have ryv := ryu.chg cv hxu xy (by obtain ⟨_, _, e⟩ := rvi; rw [e]; exact fun z => nomatch z)
  have esv := lk cv hxu esu
  have E1v := lk cv hxu E1u
  have E2v := lk cv hxu E2u
  have Ebv := lk cv hxu Ebu
  have Av := Au.chg hS cv xH
  obtain ⟨_, dyv, lyv, uyv, hyv, _, _⟩ := id ryv
  -- two.fail
  refine ⟨_, rfl, y, dyv, _, rfl, hyv, nl _ _ _ (by decide +kernel) (by decide +kernel), _, rfl, sp, _, 1, _, rfl, rfl, sql esv, rfl, H7, y, 0, k, Ms, rfl, ryv, drM, by omega, fun Hw cw rw_ => ?_⟩
  have rwi := rw_.ins
  have rxw := rv.chg cw hyv (Ne.symm xy) (by obtain ⟨_, _, e⟩ := rwi; rw [e]; exact fun z => nomatch z)
  have esw := lk cw hyv esv
  have E1w := lk cw hyv E1v
  have E2w := lk cw hyv E2v
  have Ebw := lk cw hyv Ebv
  have Aw := Av.chg hS cw yH
  rw [Nat.zero_add] at rxw rw_
  -- due
  obtain ⟨due, edue⟩ : ∃ due, due = (decide (m0 = k) && decide (flatL La = flatL Ms)) := ⟨_, rfl⟩
  refine ⟨fun v H' => v = .bl due ∧ H' = Hw, ?_, fun v H' hv => ?_⟩
  · refine ⟨_, rfl, _, rfl, dInts (flatL La), dInts (flatL Ms), dp_ints (sql E1w), dp_ints (sql E2w), shaped_ints _, shaped_ints _, _, rfl, ?_⟩
    rw [eqv_ints]
    refine ite2 (fun e => ?_) (fun e => ?_)
    · refine ⟨_, rfl, sp, _, 0, _, rfl, rfl, sql esw, rfl, _, rfl, sp, _, 1, _, rfl, rfl, sql esw, rfl, rfl, ?_, rfl⟩
      rw [edue, e, Bool.and_true]
      have : decide (V.int (m0 : Int) = V.int (k : Int)) = decide (m0 = k) := decide_eq_decide.mpr ⟨fun z => by injection z with z; omega, fun z => by rw [z]⟩
      rw [this]
    · refine ⟨?_, rfl⟩
      rw [edue, Bool.eq_false_iff.mpr e, Bool.and_false]
  obtain ⟨rfl, rfl⟩ := hv
  have edue2 : due = (decide (k = m0) && decide (flatL Ms = flatL La)) := by
    rw [edue, show decide (m0 = k) = decide (k = m0) from decide_eq_decide.mpr eq_comm, show decide (flatL La = flatL Ms) = decide (flatL Ms = flatL La) from decide_eq_decide.mpr eq_comm]
  obtain ⟨_, dxw, lxw, uxw, hxw, _, _⟩ := id rxw
  obtain ⟨_, dyw, lyw, uyw, hyw, _, _⟩ := id rw_
  refine ⟨_, rfl, _, rfl, x, y, dxw, dyw, _, _, rfl, rfl, hxw, hyw, x, .ref y, m0, La, rfl, rxw.run, dr0.ok, .inl ⟨y, k, Ms, rfl, rw_.run, drM.ok, _, rfl, ?_⟩⟩
  rw [← edue]
  refine ⟨_, rfl, rfl, _, rfl, ite2 (fun e => absurd e (by simp)) (fun _ => ?_)⟩
  refine ⟨_, rfl, _, rfl, y, x, dyw, dxw, _, _, rfl, rfl, hyw, hxw, y, .ref x, k, Ms, rfl, rw_.run, drM.ok, .inl ⟨x, m0, La, rfl, rxw.run, dr0.ok, _, rfl, ?_⟩⟩
  rw [← edue2]
  refine ⟨_, rfl, rfl, _, rfl, ite2 (fun e => absurd e (by cases due <;> simp)) (fun _ => ?_)⟩
  refine ⟨_, rfl, x, dxw, _, rfl, hxw, nl _ _ _ (by decide +kernel) (by decide +kernel), x, m0, La, rfl, rxw.run, dr0, fun Hx1 sx1 => ⟨_, rfl, w1, _, rfl, .inl (sql (sx1 _ _ E1w)), _, rfl, sp, _, 0, _, rfl, rfl, sql (sx1 _ _ esw), rfl, _, _, rfl, rfl, rfl, _, rfl, int_ne (fun e => absurd (by omega) e) (fun _ => ?_)⟩⟩
  have rx1 := rxw.same sx1
  have ry1 := rw_.same sx1
  -- extra
  refine ⟨size_le (by show 1 ≤ 100000; decide), fun z hz => ?_⟩
  have sz := same_new (o := .lst [.int 2]) hz
  have ez := upd_same (H := Hx1) (a := z) (o := .lst [.int 2])
  generalize upd Hx1 z (.lst [.int 2]) = Hx2 at *
  have k2 : (Lay.pol [2]).nice := Lay.nice_pol (by decide) (fun y hy => by rw [List.mem_singleton.mp hy]; decide)
  have k3 : (Lay.con 0 1).nice := Lay.nice_con (by decide) (by decide) (by decide) (by decide)
  have dr2 : Drawn (Ms ++ [.pol [2]]) := ⟨fun M hM => (List.mem_append.mp hM).elim (nm M) fun q => by rw [List.mem_singleton.mp q]; exact k2, by rw [List.length_append]; show Ms.length + 1 ≤ 8; omega⟩
  have dr3 : Drawn ((Ms ++ [.pol [2]]) ++ [.con 0 1]) := ⟨fun M hM => (List.mem_append.mp hM).elim (dr2.nice M) fun q => by rw [List.mem_singleton.mp q]; exact k3, by rw [List.length_append, List.length_append]; show Ms.length + 1 + 1 ≤ 8; omega⟩
  have ry2 := ry1.rebase hz sz ez
  obtain ⟨_, dy2, ly2, uy2, hy2, _, _⟩ := id ry2
  refine ⟨_, rfl, y, dy2, _, rfl, hy2, nl _ _ _ (by decide +kernel) (by decide +kernel), _, rfl, _, y, k, Ms, .ref z, .pol [2], rfl, ry2, dr2, ⟨z, rfl, ez⟩, fun Hx3 c3 ry3 => ?_⟩
  have ez3 := lk c3 hy2 ez
  have ri3 := ry3.ins
  have rx3 := (rx1.rebase hz sz ez).chg c3 hy2 (Ne.symm xy) (by obtain ⟨_, _, e⟩ := ri3; rw [e]; exact fun z => nomatch z)
  have es3 := lk c3 hy2 (sz _ _ (sx1 _ _ esw))
  have E23 := lk c3 hy2 (sz _ _ (sx1 _ _ E2w))
  have Eb3 := lk c3 hy2 (sz _ _ (sx1 _ _ Ebw))
  have A3x := (Aw.trans (Rdv.of (sx1.trans sz)) (Int.le_refl _)).chg hS c3 yH
  have nz : ∀ {b o}, Hx1 b = some o → b ≠ z := fun h e => by rw [e, hz] at h; cases h
  have zH : H z = none := (Aw.trans (Rdv.of sx1) (Int.le_refl _)).free hS hz
  refine ⟨_, rfl, .inl ⟨rfl, _, sql ez3⟩, z, _, _, rfl, rfl, ez3, size_lt (by show 1 < 100000; decide), ?_⟩
  have ry4 := ry3.put (o' := .lst ([.int 2] ++ [.int 9])) upd_same ez3
  have rx4 := rx3.put (o' := .lst ([.int 2] ++ [.int 9])) upd_same ez3
  have es4 : upd Hx3 z (.lst ([.int 2] ++ [.int 9])) sp = _ := (upd_ne (nz (sx1 _ _ esw))).trans es3
  have E24 : upd Hx3 z (.lst ([.int 2] ++ [.int 9])) w2 = _ := (upd_ne (nz (sx1 _ _ E2w))).trans E23
  have Eb4 : upd Hx3 z (.lst ([.int 2] ++ [.int 9])) b = _ := (upd_ne (nz (sx1 _ _ Ebw))).trans Eb3
  have A4x := A3x.mut (o := .lst ([.int 2] ++ [.int 9])) hS zH
  generalize upd Hx3 z (.lst ([.int 2] ++ [.int 9])) = Hx4 at *
  obtain ⟨_, dy4, ly4, uy4, hy4, _, _⟩ := id ry4
  refine ⟨_, rfl, y, dy4, _, rfl, hy4, nl _ _ _ (by decide +kernel) (by decide +kernel), size_le (by show 2 ≤ 100000; decide), fun tt htt => ⟨rfl, ?_⟩⟩
  have stt := same_new (o := .tup [.int 0, .int 1]) htt
  have ett2 := upd_same (H := Hx4) (a := tt) (o := .tup [.int 0, .int 1])
  generalize upd Hx4 tt (.tup [.int 0, .int 1]) = Hx5 at *
  refine ⟨_, y, k, Ms ++ [.pol [2]], .ref tt, .con 0 1, rfl, ry4.same stt, dr3, ⟨tt, rfl, ett2⟩, fun Hx6 c6' ry6 => ?_⟩
  have hy5 := stt _ _ hy4
  have ri6 := ry6.ins
  have rx6 := (rx4.same stt).chg c6' hy5 (Ne.symm xy) (by obtain ⟨_, _, e⟩ := ri6; rw [e]; exact fun z => nomatch z)
  have es6 := lk c6' hy5 (stt _ _ es4)
  have E26 := lk c6' hy5 (stt _ _ E24)
  have Eb6 := lk c6' hy5 (stt _ _ Eb4)
  have A6x := (A4x.trans (Rdv.of stt) (Int.le_refl _)).chg hS c6' yH
  obtain ⟨_, dx6, lx6, ux6, hx6', _, _⟩ := id rx6
  obtain ⟨_, dy6, ly6, uy6, hy6, _, _⟩ := id ry6
  have an : attOf ((Ms ++ [.pol [2]]) ++ [.con 0 1]) = attOf Ms * 2 := by
    rw [attOf_snoc, attOf_snoc]
    show attOf Ms * 2 * 1 = attOf Ms * 2
    omega
  refine ⟨_, rfl, y, dy6, _, rfl, hy6, nl _ _ _ (by decide +kernel) (by decide +kernel), y, k, _, rfl, ry6.run, dr3, fun Hx7 s7 => ?_⟩
  refine ⟨_, rfl, w2, _, rfl, .inl (sql (s7 _ _ E26)), _, _, rfl, rfl, .inl ⟨by omega, by omega⟩, _, _, rfl, rfl, _, rfl, sp, _, 1, _, rfl, rfl, sql (s7 _ _ es6), rfl, _, _, rfl, rfl, rfl, _, rfl, int_ne (fun e => absurd (by rw [an]; omega) e) (fun _ => ?_)⟩
  have rx7 := rx6.same s7
  have ry7 := ry6.same s7
  have ne : (decide (m0 = k) && decide (flatL La = flatL ((Ms ++ [.pol [2]]) ++ [.con 0 1]))) = false := by
    rw [decide_eq_false (show ¬ flatL La = flatL ((Ms ++ [.pol [2]]) ++ [.con 0 1]) from fun e => ?_), Bool.and_false]
    have h1 := flatL_len _ La rfl dr0.ok
    have h2 := flatL_len _ _ rfl dr3.ok
    rw [← e, an] at h2
    have h3 := attOf_pos dr0.ok
    omega
  refine ⟨_, rfl, _, rfl, x, y, dx6, dy6, _, _, rfl, rfl, s7 _ _ hx6', s7 _ _ hy6, x, .ref y, m0, La, rfl, rx7.run, dr0.ok, .inl ⟨y, k, _, rfl, ry7.run, dr3.ok, _, rfl, ?_⟩⟩
  rw [ne]
  refine ⟨_, rfl, iteF ?_⟩
  refine ⟨_, rfl, _, rfl, _, rfl, sp, _, 0, _, rfl, rfl, sql (s7 _ _ es6), rfl, size_le (by show 5 ≤ 100000; decide), fun li hli => ?_⟩
  have sl := same_new (o := .lst [.non, .ref b, .int (m0 : Int), .str "runner", .int 0]) hli
  have eb := sl _ _ (s7 _ _ Eb6)
  have fine : ∀ v ∈ ([.non, .ref b, .int (m0 : Int), .str "runner", .int 0] : List V), Item (upd Hx7 li (.lst [.non, .ref b, .int (m0 : Int), .str "runner", .int 0])) v := fun v hv => by
    simp only [List.mem_cons, List.not_mem_nil, or_false] at hv
    rcases hv with rfl | rfl | rfl | rfl | rfl
    · exact .inl rfl
    · exact .inr (.inr (.inr ⟨b, _, rfl, eb⟩))
    · exact .inr (.inl ⟨_, rfl⟩)
    · exact .inr (.inr (.inl ⟨_, rfl⟩))
    · exact .inr (.inl ⟨_, rfl⟩)
  refine ⟨x, li, dx6, _, _, rfl, rfl, sl _ _ (s7 _ _ hx6'), upd_same, fine, fun v hv => ⟨x, v, m0, La, rfl, (rx7.same sl).run, dr0.ok, .inr ⟨fine v hv, rfl, rfl⟩⟩, ?_⟩
  exact q _ ((A6x.trans (Rdv.of (s7.trans sl)) (Int.le_refl _)).mono (by omega))

end
end Rn
namespace Rn
open PySem PySem.Spec PyProof.Rows L2
section
variable {P : Program} {w : World} {K : PySem.W.Frag} {mg : Str → Option Value} {base : Heap}
def sp_law (K : PySem.W.Frag) : Sp := fun vs H Q _ => ∃ (a : Addr) (ns : List Int), vs = [.ref a] ∧ SqL K H a (ns.map V.int) ∧ ns.length ≤ 63 ∧ ∀ H', Q (.bl true) H'
abbrev lvl_law : Nat := 10
theorem ok_law (T : Txt P K mg) : FnOk P w K mg base CX0 lvl_law T.f_law T.d_law ["script"] (sp_law K) := by
  have G_law_pool := (ok_law_pool (P := P) (w := w) (base := base) T).mono (by decide : 1 ≤ 9)
  have G_law_right := (ok_law_right (P := P) (w := w) (base := base) T)
  have G_Runner_init := (ok_Runner_init (P := P) (w := w) (base := base) T).mono (by decide : 7 ≤ 8)
  have G_Runner_eq := (ok_Runner_eq (P := P) (w := w) (base := base) T).mono (by decide : 1 ≤ 9)
  have G_Runner_eq2 := (ok_Runner_eq (P := P) (w := w) (base := base) T).mono (by decide : 1 ≤ 8)
  refine T.F_law.ok sc_law (fun vs H Q E h => ?_) (fun cdv A outer s H vs Q E hr h => ?_)
  · obtain ⟨a, ns, rfl, _⟩ := h
    rfl
  obtain ⟨sa, ns, rfl, hS, hl, q⟩ := h
  refine ⟨_, (pss_cons (ps_for PassesOwn.never rfl (pi_range1 (by rfl) T.m_range (pa_cons (pe_callB (call_max2 rfl) (by rfl) T.m_max (by decide +kernel) (pa_cons pe_int (pa_cons (pe_callB (call_min2 rfl) (by rfl) T.m_min (by decide +kernel) (pa_cons pe_int (pa_cons (pe_callB call_len_seq (by rfl) T.m_len PySem.boot_len (pa_cons (pv 0) pa_nil)) pa_nil))) pa_nil))) pa_nil)) (pg_name (i := 1) sc_law.nd rfl (Or.inl rfl))
      (pss_cons (ps_set (i := 2) sc_law.nd rfl (Or.inl rfl) (pe_call G_law_pool hr (by rfl) T.g_law_pool T.F_law_pool.kp T.b_law_pool .nil pass0 (pa_cons (pv 0) (pa_cons (pv 1) pa_nil))))
      (pss_one (ps_for PassesOwn.never rfl (pi_range1 (by rfl) T.m_range (pa_cons pe_int pa_nil)) (pg_name (i := 3) sc_law.nd rfl (Or.inl rfl))
      (pss_one (ps_if (pt_not (pt_val (pe_call G_law_right hr (by rfl) T.g_law_right T.F_law_right.kp T.b_law_right .nil pass0 (pa_cons (pv 2) pa_nil))))
      (pss_one (ps_ret pe_bl))
      pss_nil))))))
      (pss_one (ps_ret (pe_and (pe_cmpR (op_eqI T.eq_Runner G_Runner_eq hr T.b_Runner_eq pass0) (pe_make T.mk_Runner G_Runner_init hr (by rfl) T.g_Runner T.b_Runner_init .nil pass0 (pa_cons (pe_lst (pa_cons (pe_tup (pa_cons pe_int (pa_cons pe_int pa_nil))) (pa_cons (pe_tup (pa_cons pe_int (pa_cons pe_int pa_nil))) pa_nil))) pa_nil)) (pe_make T.mk_Runner G_Runner_init hr (by rfl) T.g_Runner T.b_Runner_init .nil pass0 (pa_cons (pe_lst (pa_cons (pe_tup (pa_cons pe_int (pa_cons pe_int pa_nil))) pa_nil)) pa_nil)) (nomark _)) (pe_one (pe_cmpR (op_neI T.eq_Runner G_Runner_eq2 hr T.b_Runner_eq pass0) (pe_make T.mk_Runner G_Runner_init hr (by rfl) T.g_Runner T.b_Runner_init .nil pass0 (pa_cons (pe_lst (pa_cons (pe_tup (pa_cons pe_int (pa_cons pe_int pa_nil))) (pa_cons (pe_tup (pa_cons pe_int (pa_cons pe_int pa_nil))) pa_nil))) pa_nil)) (pe_make T.mk_Runner G_Runner_init hr (by rfl) T.g_Runner T.b_Runner_init .nil pass0 (pa_cons (pe_lst (pa_cons (pe_tup (pa_cons pe_int (pa_cons pe_int pa_nil))) (pa_cons (pe_tup (pa_cons pe_int (pa_cons pe_int pa_nil))) pa_nil))) pa_nil)) (nomark _))))))), ?_⟩
  have hlen : (ns.map V.int).length ≤ 63 := by rw [List.length_map]; exact hl
  have mn : ∃ mx : Int, (if (if (((ns.map V.int).length : Nat) : Int) < 6 then (((ns.map V.int).length : Nat) : Int) else 6) > 1 then (if (((ns.map V.int).length : Nat) : Int) < 6 then (((ns.map V.int).length : Nat) : Int) else 6) else 1) = mx ∧ 1 ≤ mx ∧ mx ≤ 6 := ⟨_, rfl, by split <;> split <;> omega, by split <;> split <;> omega⟩
  obtain ⟨mx, emx, mx1, mx2⟩ := mn
  refine ⟨_, rfl, sa, _, rfl, .inl hS, _, _, rfl, _, _, rfl, ?_⟩
  rw [emx]
  refine ⟨_, rfl, by omega, by omega, ?_⟩
  refine for_range (lo := 0) (n := mx.toNat) (fun i σ H' => (∃ y1 y2 y3, σ = [some (.ref sa), y1, y2, y3]) ∧ Same H H')
    ⟨⟨_, _, _, rfl⟩, Same.refl _⟩ (fun i σ H2 hi h => ?_) (fun σ H2 h => ?_)
  · obtain ⟨⟨y1, y2, y3, rfl⟩, sm⟩ := h
    refine ⟨_, rfl, _, rfl, sa, ns, i, by rw [Int.zero_add]; rfl, sm.seq hS, hl, by omega, fun H3 p s3 f3 S3 => ?_⟩
    refine ⟨_, rfl, by decide, by decide, ?_⟩
    refine for_range (lo := 0) (n := 3) (fun j σ H' => (∃ y1 y3, σ = [some (.ref sa), y1, some (.ref p), y3]) ∧ Rdv p (1000 * j) H3 H')
      ⟨⟨_, _, rfl⟩, Rdv.refl⟩ (fun j σ H4 hj h => ?_) (fun σ H4 h => ?_)
    · obtain ⟨⟨y1, y3, rfl⟩, A4⟩ := h
      have S4 := A4.src _ S3
      exact ⟨_, rfl, p, _, rfl, S4, by omega, fun H5 A5 => ⟨_, rfl, iteF ⟨⟨_, _, rfl⟩, (A4.trans A5 (Int.le_refl _)).mono (by omega)⟩⟩⟩
    · obtain ⟨⟨y1, y3, rfl⟩, A4⟩ := h
      refine ⟨⟨_, _, _, rfl⟩, fun b o hb => ?_⟩
      have hb2 := sm _ _ hb
      have hb3 := s3 _ _ hb2
      have ne : b ≠ p := fun z => by rw [← z, hb2] at f3; cases f3
      exact (hid_get (A4.same _ _ (hid_at hb3 ne ne))).1
  · obtain ⟨⟨y1, y2, y3, rfl⟩, sm⟩ := h
    have drc : ∀ Ls : List Lay, (∀ L ∈ Ls, ∃ w n : Int, L = .con w n ∧ 0 ≤ w ∧ w < 10 ∧ 1 ≤ n ∧ n < 10) → Ls.length ≤ 8 → Drawn Ls := fun Ls h l => ⟨fun L hL => by
      obtain ⟨w, n, rfl, h1, h2, h3, h4⟩ := h L hL
      exact Lay.nice_con h1 (by omega) h3 (by omega), l⟩
    have c2 : ∀ (a b c d : Int), 0 ≤ a → a < 10 → 1 ≤ b → b < 10 → 0 ≤ c → c < 10 → 1 ≤ d → d < 10 → Drawn [.con a b, .con c d] := fun a b c d h1 h2 h3 h4 h5 h6 h7 h8 => drc _ (fun L hL => by
      simp only [List.mem_cons, List.not_mem_nil, or_false] at hL
      rcases hL with rfl | rfl
      · exact ⟨a, b, rfl, h1, h2, h3, h4⟩
      · exact ⟨c, d, rfl, h5, h6, h7, h8⟩) (by show 2 ≤ 8; decide)
    have d1 : Drawn [.con 1 2, .con 1 3] := c2 _ _ _ _ (by decide) (by decide) (by decide) (by decide) (by decide) (by decide) (by decide) (by decide)
    have d3 : Drawn [.con 1 2, .con 2 3] := c2 _ _ _ _ (by decide) (by decide) (by decide) (by decide) (by decide) (by decide) (by decide) (by decide)
    have d4 : Drawn [.con 2 3, .con 1 2] := c2 _ _ _ _ (by decide) (by decide) (by decide) (by decide) (by decide) (by decide) (by decide) (by decide)
    have d2 : Drawn [.con 1 6] := drc _ (fun L hL => by rw [List.mem_singleton.mp hL]; exact ⟨1, 6, rfl, by decide, by decide, by decide, by decide⟩) (by show 1 ≤ 8; decide)
    have two : ∀ (H0 : Hp) (a b c d : Int) (t1 t2 l : Addr), H0 t1 = none → upd H0 t1 (.tup [.int a, .int b]) t2 = none → upd (upd H0 t1 (.tup [.int a, .int b])) t2 (.tup [.int c, .int d]) l = none →
        Same H0 (upd (upd (upd H0 t1 (.tup [.int a, .int b])) t2 (.tup [.int c, .int d])) l (.lst [.ref t1, .ref t2])) ∧ NestAt (upd (upd (upd H0 t1 (.tup [.int a, .int b])) t2 (.tup [.int c, .int d])) l (.lst [.ref t1, .ref t2])) l [.con a b, .con c d] := fun H0 a b c d t1 t2 l h1 h2 hl => by
      have s1 := same_new (o := .tup [.int a, .int b]) h1
      have s2 := same_new (o := .tup [.int c, .int d]) h2
      have s3 := same_new (o := .lst [.ref t1, .ref t2]) hl
      exact ⟨s1.trans (s2.trans s3), (Lays.cons (v := .ref t1) (L := .con a b) ⟨t1, rfl, s3 _ _ (s2 _ _ upd_same)⟩ (.cons (v := .ref t2) (L := .con c d) ⟨t2, rfl, s3 _ _ upd_same⟩ (Lays.none _))).nest upd_same⟩
    have one : ∀ (H0 : Hp) (a b : Int) (t1 l : Addr), H0 t1 = none → upd H0 t1 (.tup [.int a, .int b]) l = none →
        Same H0 (upd (upd H0 t1 (.tup [.int a, .int b])) l (.lst [.ref t1])) ∧ NestAt (upd (upd H0 t1 (.tup [.int a, .int b])) l (.lst [.ref t1])) l [.con a b] := fun H0 a b t1 l h1 hl => by
      have s1 := same_new (o := .tup [.int a, .int b]) h1
      have s3 := same_new (o := .lst [.ref t1]) hl
      exact ⟨s1.trans s3, (Lays.cons (v := .ref t1) (L := .con a b) ⟨t1, rfl, s3 _ _ upd_same⟩ (Lays.none _)).nest upd_same⟩
    have rin : ∀ {H' : Hp} {x : Addr} {n : Nat} {Ls : List Lay}, RunA T.C_Runner H' x n Ls → ∃ dx fs, H' x = some (.ins T.C_Runner dx fs) := fun h => by
      obtain ⟨dx, l, h1, _⟩ := h
      exact ⟨dx, _, h1⟩
    refine ⟨size_le (by show 2 ≤ 100000; decide), fun t1 ht1 => ⟨size_le (by show 2 ≤ 100000; decide), fun u1 hu1 => ⟨size_le (by show 2 ≤ 100000; decide), fun l1 hl1 => ?_⟩⟩⟩
    obtain ⟨s1, N1⟩ := two H2 1 2 1 3 t1 u1 l1 ht1 hu1 hl1
    generalize upd (upd (upd H2 t1 (.tup [.int 1, .int 2])) u1 (.tup [.int 1, .int 3])) l1 (.lst [.ref t1, .ref u1]) = B1 at *
    refine (fun x1 dx1 nx1 ndx1 nex1 => ?_)
    have sx1 : Same B1 (upd (upd B1 dx1 (.own x1)) x1 (.ins T.C_Runner dx1 [])) := (same_new ndx1).trans (same_new (by rw [upd_ne nex1.symm]; exact nx1))
    have ex1 := upd_same (H := upd B1 dx1 (.own x1)) (a := x1) (o := .ins T.C_Runner dx1 [])
    generalize upd (upd B1 dx1 (.own x1)) x1 (.ins T.C_Runner dx1 []) = D1 at *
    refine ⟨x1, dx1, l1, _, rfl, ex1, N1.same sx1, d1.fit, fun F1 c1 r1 => ⟨rfl, ?_⟩⟩
    have sf1 : Same H2 F1 := s1.trans (Chg.new sx1 c1 nx1)
    have q1 := r1.run
    refine ⟨size_le (by show 2 ≤ 100000; decide), fun t2 ht2 => ⟨size_le (by show 1 ≤ 100000; decide), fun l2 hl2 => ?_⟩⟩
    obtain ⟨s2, N2⟩ := one F1 1 6 t2 l2 ht2 hl2
    generalize upd (upd F1 t2 (.tup [.int 1, .int 6])) l2 (.lst [.ref t2]) = B2 at *
    refine (fun x2 dx2 nx2 ndx2 nex2 => ?_)
    have sx2 : Same B2 (upd (upd B2 dx2 (.own x2)) x2 (.ins T.C_Runner dx2 [])) := (same_new ndx2).trans (same_new (by rw [upd_ne nex2.symm]; exact nx2))
    have ex2 := upd_same (H := upd B2 dx2 (.own x2)) (a := x2) (o := .ins T.C_Runner dx2 [])
    generalize upd (upd B2 dx2 (.own x2)) x2 (.ins T.C_Runner dx2 []) = D2 at *
    refine ⟨x2, dx2, l2, _, rfl, ex2, N2.same sx2, d2.fit, fun F2 c2 r2 => ⟨rfl, ?_⟩⟩
    have sf2 : Same F1 F2 := s2.trans (Chg.new sx2 c2 nx2)
    have q2 := r2.run
    have q1 := q1.same sf2
    obtain ⟨dy1, fs1, hy1⟩ := rin q1
    obtain ⟨dy2, fs2, hy2⟩ := rin q2
    refine ⟨x1, x2, dy1, dy2, _, _, rfl, rfl, hy1, hy2, x1, .ref x2, 0, _, rfl, q1, d1.ok, .inl ⟨x2, 0, _, rfl, q2, d2.ok, _, rfl, ?_⟩⟩
    rw [show (decide (0 = 0) && decide (flatL [.con 1 2, .con 1 3] = flatL [.con 1 6])) = true by decide]
    refine ⟨_, rfl, iteT ?_⟩
    refine ⟨size_le (by show 2 ≤ 100000; decide), fun t3 ht3 => ⟨size_le (by show 2 ≤ 100000; decide), fun u3 hu3 => ⟨size_le (by show 2 ≤ 100000; decide), fun l3 hl3 => ?_⟩⟩⟩
    obtain ⟨s3, N3⟩ := two F2 1 2 2 3 t3 u3 l3 ht3 hu3 hl3
    generalize upd (upd (upd F2 t3 (.tup [.int 1, .int 2])) u3 (.tup [.int 2, .int 3])) l3 (.lst [.ref t3, .ref u3]) = B3 at *
    refine (fun x3 dx3 nx3 ndx3 nex3 => ?_)
    have sx3 : Same B3 (upd (upd B3 dx3 (.own x3)) x3 (.ins T.C_Runner dx3 [])) := (same_new ndx3).trans (same_new (by rw [upd_ne nex3.symm]; exact nx3))
    have ex3 := upd_same (H := upd B3 dx3 (.own x3)) (a := x3) (o := .ins T.C_Runner dx3 [])
    generalize upd (upd B3 dx3 (.own x3)) x3 (.ins T.C_Runner dx3 []) = D3 at *
    refine ⟨x3, dx3, l3, _, rfl, ex3, N3.same sx3, d3.fit, fun F3 c3 r3 => ⟨rfl, ?_⟩⟩
    have sf3 : Same F2 F3 := s3.trans (Chg.new sx3 c3 nx3)
    have q3 := r3.run
    refine ⟨size_le (by show 2 ≤ 100000; decide), fun t4 ht4 => ⟨size_le (by show 2 ≤ 100000; decide), fun u4 hu4 => ⟨size_le (by show 2 ≤ 100000; decide), fun l4 hl4 => ?_⟩⟩⟩
    obtain ⟨s4, N4⟩ := two F3 2 3 1 2 t4 u4 l4 ht4 hu4 hl4
    generalize upd (upd (upd F3 t4 (.tup [.int 2, .int 3])) u4 (.tup [.int 1, .int 2])) l4 (.lst [.ref t4, .ref u4]) = B4 at *
    refine (fun x4 dx4 nx4 ndx4 nex4 => ?_)
    have sx4 : Same B4 (upd (upd B4 dx4 (.own x4)) x4 (.ins T.C_Runner dx4 [])) := (same_new ndx4).trans (same_new (by rw [upd_ne nex4.symm]; exact nx4))
    have ex4 := upd_same (H := upd B4 dx4 (.own x4)) (a := x4) (o := .ins T.C_Runner dx4 [])
    generalize upd (upd B4 dx4 (.own x4)) x4 (.ins T.C_Runner dx4 []) = D4 at *
    refine ⟨x4, dx4, l4, _, rfl, ex4, N4.same sx4, d4.fit, fun F4 c4 r4 => ⟨rfl, ?_⟩⟩
    have sf4 : Same F3 F4 := s4.trans (Chg.new sx4 c4 nx4)
    have q4 := r4.run
    have q3 := q3.same sf4
    obtain ⟨dy3, fs3, hy3⟩ := rin q3
    obtain ⟨dy4, fs4, hy4⟩ := rin q4
    refine ⟨x3, x4, dy3, dy4, _, _, rfl, rfl, hy3, hy4, x3, .ref x4, 0, _, rfl, q3, d3.ok, .inl ⟨x4, 0, _, rfl, q4, d4.ok, _, rfl, ?_⟩⟩
    rw [show (decide (0 = 0) && decide (flatL [.con 1 2, .con 2 3] = flatL [.con 2 3, .con 1 2])) = false by decide]
    exact q _

end
end Rn
namespace Rn
open PySem PySem.Spec PyProof.Rows L2
theorem all_mk {l : PySem.W.OpenLaw} {w : World} {K : PySem.W.Frag} {h : Heap} {mg : Str → Option Value} {fa f0 f1 f2 f3 f4 f5 f6 f7 f8 f9 f10 f11 f12 f13 f14 f15 f16 f17 f18 f19 f20 f21 f22 f23 f24 f25 f26 f27 f28 : Addr} (X : K.In h) (G : h.Ns mainGlobals mg) (hfa : mg "law" = some (.ref fa))
    {od0 an0 od1 an1 od2 an2 od3 an3 od4 an4 od5 an5 od6 an6 od7 an7 od8 an8 od9 an9 od10 an10 od11 an11 od12 an12 od13 an13 od14 an14 od15 an15 od16 an16 od17 an17 od18 an18 od19 an19 od20 an20 od21 an21 od22 an22 od23 an23 od24 an24 od25 an25 od26 an26 od27 an27 od28 an28 : Option Addr} {sl0 sl1 sl2 sl3 sl4 sl5 sl6 sl7 sl8 sl9 sl10 sl11 sl12 sl13 sl14 sl15 sl16 sl17 sl18 sl19 sl20 sl21 sl22 sl23 sl24 sl25 sl26 sl27 sl28 : Array (Option Value)} {oc0 kV0 dc0 pm0 cd0 ct0 oc1 kV1 dc1 pm1 cd1 ct1 oc2 kV2 dc2 pm2 cd2 ct2 oc3 kV3 dc3 pm3 cd3 ct3 oc4 kV4 dc4 pm4 cd4 ct4 oc5 kV5 dc5 pm5 cd5 ct5 oc6 kV6 dc6 pm6 cd6 ct6 oc7 kV7 dc7 pm7 cd7 ct7 oc8 kV8 dc8 pm8 cd8 ct8 oc9 kV9 dc9 pm9 cd9 ct9 oc10 kV10 dc10 pm10 cd10 ct10 oc11 kV11 dc11 pm11 cd11 ct11 oc12 kV12 dc12 pm12 cd12 ct12 oc13 kV13 dc13 pm13 cd13 ct13 oc14 kV14 dc14 pm14 cd14 ct14 oc15 kV15 dc15 pm15 cd15 ct15 oc16 kV16 dc16 pm16 cd16 ct16 oc17 kV17 dc17 pm17 cd17 ct17 oc18 kV18 dc18 pm18 cd18 ct18 oc19 kV19 dc19 pm19 cd19 ct19 oc20 kV20 dc20 pm20 cd20 ct20 oc21 kV21 dc21 pm21 cd21 ct21 oc22 kV22 dc22 pm22 cd22 ct22 oc23 kV23 dc23 pm23 cd23 ct23 oc24 kV24 dc24 pm24 cd24 ct24 oc25 kV25 dc25 pm25 cd25 ct25 oc26 kV26 dc26 pm26 cd26 ct26 oc27 kV27 dc27 pm27 cd27 ct27 oc28 kV28 dc28 pm28 cd28 ct28 : Value}
    {nm_InvalidLayer q_InvalidLayer : Str} {C_InvalidLayer CR_InvalidLayer N_InvalidLayer I_InvalidLayer : Addr} {bs_InvalidLayer sub_InvalidLayer : List Value} {sn_InvalidLayer : List Str} {ab_InvalidLayer : Bool} {col_InvalidLayer : Option Bool} {dd_InvalidLayer : Option Addr} {m0_InvalidLayer m1_InvalidLayer m2_InvalidLayer m3_InvalidLayer m5_InvalidLayer : Option Value}
    {oc_InvalidLayer doc_InvalidLayer pm_InvalidLayer ct_InvalidLayer ccl_InvalidLayer cl_InvalidLayer : Value} {od_InvalidLayer an_InvalidLayer cdd_InvalidLayer cld_InvalidLayer : Option Addr} {cc_InvalidLayer cda_InvalidLayer : Addr} {osl_InvalidLayer ccs_InvalidLayer csl_InvalidLayer : Array (Option Value)} {vs_InvalidLayer : Array Value} {file_InvalidLayer : Str} {tf_InvalidLayer : Tok}
    {nR_InvalidLayer qR_InvalidLayer : Str} {NR_InvalidLayer : Addr} {bR_InvalidLayer subR_InvalidLayer : List Value} {snR_InvalidLayer : List Str} {abR_InvalidLayer : Bool} {colR_InvalidLayer : Option Bool} {ddR_InvalidLayer : Option Addr} {r0_InvalidLayer r1_InvalidLayer r2_InvalidLayer r3_InvalidLayer r5_InvalidLayer : Option Value}
    (aC_InvalidLayer : PySem.W.nsIn K mainGlobals "InvalidLayer" = some (some (.ref C_InvalidLayer)))
    (xL_InvalidLayer : K.lookup C_InvalidLayer = some (PySem.excClassObj nm_InvalidLayer q_InvalidLayer C_InvalidLayer N_InvalidLayer bs_InvalidLayer [.ref CR_InvalidLayer, .type "ValueError", .type "Exception", .type "BaseException", .type "object"] true sn_InvalidLayer sub_InvalidLayer ab_InvalidLayer col_InvalidLayer dd_InvalidLayer m0_InvalidLayer m1_InvalidLayer m2_InvalidLayer m3_InvalidLayer m5_InvalidLayer "ValueError.__new__"))
    (sa_InvalidLayer : PySem.W.findIn K (.ref C_InvalidLayer) "__setattr__" = some (some (.builtin "object.__setattr__")))
    (ga_InvalidLayer : PySem.W.findIn K (.ref C_InvalidLayer) "__getattribute__" = some (some (.builtin "BaseException.__getattribute__")))
    (gg_InvalidLayer : PySem.W.findIn K (.ref C_InvalidLayer) "__getattr__" = some none)
    (nN_InvalidLayer : PySem.W.findIn K (.ref C_InvalidLayer) "value" = some none)
    (iC_InvalidLayer : PySem.W.findIn K (.ref C_InvalidLayer) "__init__" = some (some (.ref I_InvalidLayer)))
    (tC_InvalidLayer : PySem.W.typeIn K (.ref I_InvalidLayer) = some (.type "function"))
    (kC_InvalidLayer : PySem.W.keepIn K (.ref C_InvalidLayer) = true)
    (eC_InvalidLayer : PySem.W.subIn K (.ref C_InvalidLayer) (.type "BaseException") = some true)
    (vC_InvalidLayer : PySem.W.subIn K (.ref C_InvalidLayer) (.type "ValueError") = some true)
    (yC_InvalidLayer : PySem.W.typeIn K (.ref C_InvalidLayer) = some (.type "type"))
    (hC_InvalidLayer : PySem.W.hasDictIn K C_InvalidLayer = true)
    (mC_InvalidLayer : PySem.W.mroIn K C_InvalidLayer (.ref C_InvalidLayer) = some true)
    (xR_InvalidLayer : K.lookup CR_InvalidLayer = some (PySem.excClassObj nR_InvalidLayer qR_InvalidLayer CR_InvalidLayer NR_InvalidLayer bR_InvalidLayer [.type "ValueError", .type "Exception", .type "BaseException", .type "object"] true snR_InvalidLayer subR_InvalidLayer abR_InvalidLayer colR_InvalidLayer ddR_InvalidLayer r0_InvalidLayer r1_InvalidLayer r2_InvalidLayer r3_InvalidLayer r5_InvalidLayer "ValueError.__new__"))
    (fR_InvalidLayer : PySem.W.findIn K (.ref CR_InvalidLayer) "__init__" = some (some (.builtin "ValueError.__init__")))
    (lI_InvalidLayer : K.lookup I_InvalidLayer = some ⟨oc_InvalidLayer, od_InvalidLayer, .func (PySem.W.ksFn "__init__" "InvalidLayer.__init__" (PySem.VeX.iA ⟨9, 17, 9, 21⟩ ⟨9, 23, 9, 28⟩) (PySem.VeX.iB "a layer is invalid" ⟨10, 8, 10, 13⟩ ⟨10, 8, 10, 15⟩ ⟨10, 8, 10, 24⟩ ⟨10, 25, 10, 45⟩ ⟨10, 8, 10, 46⟩ ⟨10, 8, 10, 46⟩ ⟨11, 8, 11, 12⟩ ⟨11, 8, 11, 18⟩ ⟨11, 21, 11, 26⟩ ⟨11, 8, 11, 26⟩) PySem.VeX.iS .none .none doc_InvalidLayer pm_InvalidLayer an_InvalidLayer (.ref cda_InvalidLayer) ct_InvalidLayer cc_InvalidLayer), osl_InvalidLayer⟩)
    (cI_InvalidLayer : PySem.W.codeIn K (.ref cda_InvalidLayer) "InvalidLayer.__init__" = true)
    (cd_InvalidLayer : K.lookup cda_InvalidLayer = some ⟨ccl_InvalidLayer, cdd_InvalidLayer, .fields vs_InvalidLayer, ccs_InvalidLayer⟩)
    (fv_InvalidLayer : vs_InvalidLayer[2]? = some (.str file_InvalidLayer tf_InvalidLayer))
    (fm_InvalidLayer : ((l.prog.main.file : Str) == file_InvalidLayer) = true)
    (ce_InvalidLayer : K.lookup cc_InvalidLayer = some ⟨cl_InvalidLayer, cld_InvalidLayer, .cell (some (.ref C_InvalidLayer)), csl_InvalidLayer⟩)
    (ic_InvalidLayer : PySem.W.isClsIn K C_InvalidLayer = true)
    {nm_InvalidNumber q_InvalidNumber : Str} {C_InvalidNumber CR_InvalidNumber N_InvalidNumber I_InvalidNumber : Addr} {bs_InvalidNumber sub_InvalidNumber : List Value} {sn_InvalidNumber : List Str} {ab_InvalidNumber : Bool} {col_InvalidNumber : Option Bool} {dd_InvalidNumber : Option Addr} {m0_InvalidNumber m1_InvalidNumber m2_InvalidNumber m3_InvalidNumber m5_InvalidNumber : Option Value}
    {oc_InvalidNumber doc_InvalidNumber pm_InvalidNumber ct_InvalidNumber ccl_InvalidNumber cl_InvalidNumber : Value} {od_InvalidNumber an_InvalidNumber cdd_InvalidNumber cld_InvalidNumber : Option Addr} {cc_InvalidNumber cda_InvalidNumber : Addr} {osl_InvalidNumber ccs_InvalidNumber csl_InvalidNumber : Array (Option Value)} {vs_InvalidNumber : Array Value} {file_InvalidNumber : Str} {tf_InvalidNumber : Tok}
    {nR_InvalidNumber qR_InvalidNumber : Str} {NR_InvalidNumber : Addr} {bR_InvalidNumber subR_InvalidNumber : List Value} {snR_InvalidNumber : List Str} {abR_InvalidNumber : Bool} {colR_InvalidNumber : Option Bool} {ddR_InvalidNumber : Option Addr} {r0_InvalidNumber r1_InvalidNumber r2_InvalidNumber r3_InvalidNumber r5_InvalidNumber : Option Value}
    (aC_InvalidNumber : PySem.W.nsIn K mainGlobals "InvalidNumber" = some (some (.ref C_InvalidNumber)))
    (xL_InvalidNumber : K.lookup C_InvalidNumber = some (PySem.excClassObj nm_InvalidNumber q_InvalidNumber C_InvalidNumber N_InvalidNumber bs_InvalidNumber [.ref CR_InvalidNumber, .type "ValueError", .type "Exception", .type "BaseException", .type "object"] true sn_InvalidNumber sub_InvalidNumber ab_InvalidNumber col_InvalidNumber dd_InvalidNumber m0_InvalidNumber m1_InvalidNumber m2_InvalidNumber m3_InvalidNumber m5_InvalidNumber "ValueError.__new__"))
    (sa_InvalidNumber : PySem.W.findIn K (.ref C_InvalidNumber) "__setattr__" = some (some (.builtin "object.__setattr__")))
    (ga_InvalidNumber : PySem.W.findIn K (.ref C_InvalidNumber) "__getattribute__" = some (some (.builtin "BaseException.__getattribute__")))
    (gg_InvalidNumber : PySem.W.findIn K (.ref C_InvalidNumber) "__getattr__" = some none)
    (nN_InvalidNumber : PySem.W.findIn K (.ref C_InvalidNumber) "value" = some none)
    (iC_InvalidNumber : PySem.W.findIn K (.ref C_InvalidNumber) "__init__" = some (some (.ref I_InvalidNumber)))
    (tC_InvalidNumber : PySem.W.typeIn K (.ref I_InvalidNumber) = some (.type "function"))
    (kC_InvalidNumber : PySem.W.keepIn K (.ref C_InvalidNumber) = true)
    (eC_InvalidNumber : PySem.W.subIn K (.ref C_InvalidNumber) (.type "BaseException") = some true)
    (vC_InvalidNumber : PySem.W.subIn K (.ref C_InvalidNumber) (.type "ValueError") = some true)
    (yC_InvalidNumber : PySem.W.typeIn K (.ref C_InvalidNumber) = some (.type "type"))
    (hC_InvalidNumber : PySem.W.hasDictIn K C_InvalidNumber = true)
    (mC_InvalidNumber : PySem.W.mroIn K C_InvalidNumber (.ref C_InvalidNumber) = some true)
    (xR_InvalidNumber : K.lookup CR_InvalidNumber = some (PySem.excClassObj nR_InvalidNumber qR_InvalidNumber CR_InvalidNumber NR_InvalidNumber bR_InvalidNumber [.type "ValueError", .type "Exception", .type "BaseException", .type "object"] true snR_InvalidNumber subR_InvalidNumber abR_InvalidNumber colR_InvalidNumber ddR_InvalidNumber r0_InvalidNumber r1_InvalidNumber r2_InvalidNumber r3_InvalidNumber r5_InvalidNumber "ValueError.__new__"))
    (fR_InvalidNumber : PySem.W.findIn K (.ref CR_InvalidNumber) "__init__" = some (some (.builtin "ValueError.__init__")))
    (lI_InvalidNumber : K.lookup I_InvalidNumber = some ⟨oc_InvalidNumber, od_InvalidNumber, .func (PySem.W.ksFn "__init__" "InvalidNumber.__init__" (PySem.VeX.iA ⟨14, 17, 14, 21⟩ ⟨14, 23, 14, 28⟩) (PySem.VeX.iB "a number is not possible here" ⟨15, 8, 15, 13⟩ ⟨15, 8, 15, 15⟩ ⟨15, 8, 15, 24⟩ ⟨15, 25, 15, 56⟩ ⟨15, 8, 15, 57⟩ ⟨15, 8, 15, 57⟩ ⟨16, 8, 16, 12⟩ ⟨16, 8, 16, 18⟩ ⟨16, 21, 16, 26⟩ ⟨16, 8, 16, 26⟩) PySem.VeX.iS .none .none doc_InvalidNumber pm_InvalidNumber an_InvalidNumber (.ref cda_InvalidNumber) ct_InvalidNumber cc_InvalidNumber), osl_InvalidNumber⟩)
    (cI_InvalidNumber : PySem.W.codeIn K (.ref cda_InvalidNumber) "InvalidNumber.__init__" = true)
    (cd_InvalidNumber : K.lookup cda_InvalidNumber = some ⟨ccl_InvalidNumber, cdd_InvalidNumber, .fields vs_InvalidNumber, ccs_InvalidNumber⟩)
    (fv_InvalidNumber : vs_InvalidNumber[2]? = some (.str file_InvalidNumber tf_InvalidNumber))
    (fm_InvalidNumber : ((l.prog.main.file : Str) == file_InvalidNumber) = true)
    (ce_InvalidNumber : K.lookup cc_InvalidNumber = some ⟨cl_InvalidNumber, cld_InvalidNumber, .cell (some (.ref C_InvalidNumber)), csl_InvalidNumber⟩)
    (ic_InvalidNumber : PySem.W.isClsIn K C_InvalidNumber = true)
    {nm_NoMoreAttempts q_NoMoreAttempts : Str} {C_NoMoreAttempts CR_NoMoreAttempts N_NoMoreAttempts I_NoMoreAttempts : Addr} {bs_NoMoreAttempts sub_NoMoreAttempts : List Value} {sn_NoMoreAttempts : List Str} {ab_NoMoreAttempts : Bool} {col_NoMoreAttempts : Option Bool} {dd_NoMoreAttempts : Option Addr} {m0_NoMoreAttempts m1_NoMoreAttempts m2_NoMoreAttempts m3_NoMoreAttempts m5_NoMoreAttempts : Option Value}
    {oc_NoMoreAttempts doc_NoMoreAttempts pm_NoMoreAttempts ct_NoMoreAttempts ccl_NoMoreAttempts cl_NoMoreAttempts : Value} {od_NoMoreAttempts an_NoMoreAttempts cdd_NoMoreAttempts cld_NoMoreAttempts : Option Addr} {cc_NoMoreAttempts cda_NoMoreAttempts : Addr} {osl_NoMoreAttempts ccs_NoMoreAttempts csl_NoMoreAttempts : Array (Option Value)} {vs_NoMoreAttempts : Array Value} {file_NoMoreAttempts : Str} {tf_NoMoreAttempts : Tok}
    {nR_NoMoreAttempts qR_NoMoreAttempts : Str} {NR_NoMoreAttempts : Addr} {bR_NoMoreAttempts subR_NoMoreAttempts : List Value} {snR_NoMoreAttempts : List Str} {abR_NoMoreAttempts : Bool} {colR_NoMoreAttempts : Option Bool} {ddR_NoMoreAttempts : Option Addr} {r0_NoMoreAttempts r1_NoMoreAttempts r2_NoMoreAttempts r3_NoMoreAttempts r5_NoMoreAttempts : Option Value}
    (aC_NoMoreAttempts : PySem.W.nsIn K mainGlobals "NoMoreAttempts" = some (some (.ref C_NoMoreAttempts)))
    (xL_NoMoreAttempts : K.lookup C_NoMoreAttempts = some (PySem.excClassObj nm_NoMoreAttempts q_NoMoreAttempts C_NoMoreAttempts N_NoMoreAttempts bs_NoMoreAttempts [.ref CR_NoMoreAttempts, .type "ValueError", .type "Exception", .type "BaseException", .type "object"] true sn_NoMoreAttempts sub_NoMoreAttempts ab_NoMoreAttempts col_NoMoreAttempts dd_NoMoreAttempts m0_NoMoreAttempts m1_NoMoreAttempts m2_NoMoreAttempts m3_NoMoreAttempts m5_NoMoreAttempts "ValueError.__new__"))
    (sa_NoMoreAttempts : PySem.W.findIn K (.ref C_NoMoreAttempts) "__setattr__" = some (some (.builtin "object.__setattr__")))
    (ga_NoMoreAttempts : PySem.W.findIn K (.ref C_NoMoreAttempts) "__getattribute__" = some (some (.builtin "BaseException.__getattribute__")))
    (gg_NoMoreAttempts : PySem.W.findIn K (.ref C_NoMoreAttempts) "__getattr__" = some none)
    (nN_NoMoreAttempts : PySem.W.findIn K (.ref C_NoMoreAttempts) "value" = some none)
    (iC_NoMoreAttempts : PySem.W.findIn K (.ref C_NoMoreAttempts) "__init__" = some (some (.ref I_NoMoreAttempts)))
    (tC_NoMoreAttempts : PySem.W.typeIn K (.ref I_NoMoreAttempts) = some (.type "function"))
    (kC_NoMoreAttempts : PySem.W.keepIn K (.ref C_NoMoreAttempts) = true)
    (eC_NoMoreAttempts : PySem.W.subIn K (.ref C_NoMoreAttempts) (.type "BaseException") = some true)
    (vC_NoMoreAttempts : PySem.W.subIn K (.ref C_NoMoreAttempts) (.type "ValueError") = some true)
    (yC_NoMoreAttempts : PySem.W.typeIn K (.ref C_NoMoreAttempts) = some (.type "type"))
    (hC_NoMoreAttempts : PySem.W.hasDictIn K C_NoMoreAttempts = true)
    (mC_NoMoreAttempts : PySem.W.mroIn K C_NoMoreAttempts (.ref C_NoMoreAttempts) = some true)
    (xR_NoMoreAttempts : K.lookup CR_NoMoreAttempts = some (PySem.excClassObj nR_NoMoreAttempts qR_NoMoreAttempts CR_NoMoreAttempts NR_NoMoreAttempts bR_NoMoreAttempts [.type "ValueError", .type "Exception", .type "BaseException", .type "object"] true snR_NoMoreAttempts subR_NoMoreAttempts abR_NoMoreAttempts colR_NoMoreAttempts ddR_NoMoreAttempts r0_NoMoreAttempts r1_NoMoreAttempts r2_NoMoreAttempts r3_NoMoreAttempts r5_NoMoreAttempts "ValueError.__new__"))
    (fR_NoMoreAttempts : PySem.W.findIn K (.ref CR_NoMoreAttempts) "__init__" = some (some (.builtin "ValueError.__init__")))
    (lI_NoMoreAttempts : K.lookup I_NoMoreAttempts = some ⟨oc_NoMoreAttempts, od_NoMoreAttempts, .func (PySem.W.ksFn "__init__" "NoMoreAttempts.__init__" (PySem.VeX.iA ⟨19, 17, 19, 21⟩ ⟨19, 23, 19, 28⟩) (PySem.VeX.iB "too few attempts are left" ⟨20, 8, 20, 13⟩ ⟨20, 8, 20, 15⟩ ⟨20, 8, 20, 24⟩ ⟨20, 25, 20, 52⟩ ⟨20, 8, 20, 53⟩ ⟨20, 8, 20, 53⟩ ⟨21, 8, 21, 12⟩ ⟨21, 8, 21, 18⟩ ⟨21, 21, 21, 26⟩ ⟨21, 8, 21, 26⟩) PySem.VeX.iS .none .none doc_NoMoreAttempts pm_NoMoreAttempts an_NoMoreAttempts (.ref cda_NoMoreAttempts) ct_NoMoreAttempts cc_NoMoreAttempts), osl_NoMoreAttempts⟩)
    (cI_NoMoreAttempts : PySem.W.codeIn K (.ref cda_NoMoreAttempts) "NoMoreAttempts.__init__" = true)
    (cd_NoMoreAttempts : K.lookup cda_NoMoreAttempts = some ⟨ccl_NoMoreAttempts, cdd_NoMoreAttempts, .fields vs_NoMoreAttempts, ccs_NoMoreAttempts⟩)
    (fv_NoMoreAttempts : vs_NoMoreAttempts[2]? = some (.str file_NoMoreAttempts tf_NoMoreAttempts))
    (fm_NoMoreAttempts : ((l.prog.main.file : Str) == file_NoMoreAttempts) = true)
    (ce_NoMoreAttempts : K.lookup cc_NoMoreAttempts = some ⟨cl_NoMoreAttempts, cld_NoMoreAttempts, .cell (some (.ref C_NoMoreAttempts)), csl_NoMoreAttempts⟩)
    (ic_NoMoreAttempts : PySem.W.isClsIn K C_NoMoreAttempts = true)
    (xn : PySem.W.specialIn K (.builtin "object.__class__") "__get__" = some (some (.builtin "getset_descriptor.__get__"))) (xt : PySem.W.takesIn K (.builtin "object.__class__") = some true)
    (aS : PySem.W.nsIn K mainGlobals "super" = some none) (op : PySem.W.nsIn K PySem.cStatics "thirdparty.any" = some none) (top : (l.prog.main.scope.names.lookup ("super" : Str)).isSome = false)
    {C_Runner : Addr} (aC_Runner : PySem.W.nsIn K mainGlobals "Runner" = some (some (.ref C_Runner))) (pg_Runner : PySem.W.plainGet K C_Runner Str.empty = true) (hd_Runner : PySem.W.hasDictIn K C_Runner = true) (po_Runner : PySem.W.plainOver K C_Runner = true) (sa_Runner : PySem.W.findIn K (.ref C_Runner) "__setattr__" = some (some (.builtin "object.__setattr__"))) (mk_Runner : PySem.W.makesIn K C_Runner = true) (kc_Runner : PySem.W.keepIn K (.ref C_Runner) = true)
    (xm_Runner : PySem.W.mroIn K C_Runner (.type "object") = some true)
    (xa_Runner : PySem.W.findIn K (.ref C_Runner) "__class__" = some (some (.builtin "object.__class__"))) (ki_Runner : PySem.W.kitOne K (.ref C_Runner) (.ref C_Runner) = some true)
    (ne_Runner : PySem.W.findIn K (.ref C_Runner) "__ne__" = some (some (.builtin "object.__ne__")))
    (nk_NoneType_Runner : PySem.W.mroIn K C_Runner (.type "NoneType") = some false)
    (nk_int_Runner : PySem.W.mroIn K C_Runner (.type "int") = some false)
    (nk_str_Runner : PySem.W.mroIn K C_Runner (.type "str") = some false)
    (nk_list_Runner : PySem.W.mroIn K C_Runner (.type "list") = some false)
    (kt_NoneType_Runner : PySem.W.kitOne K (.type "NoneType") (.ref C_Runner) = some false)
    (kt_int_Runner : PySem.W.kitOne K (.type "int") (.ref C_Runner) = some false)
    (kt_str_Runner : PySem.W.kitOne K (.type "str") (.ref C_Runner) = some false)
    (kt_list_Runner : PySem.W.kitOne K (.type "list") (.ref C_Runner) = some false)
    (n_attempt : PySem.W.findIn K (.ref C_Runner) "_attempt" = some none)
    (n_nesting : PySem.W.findIn K (.ref C_Runner) "_nesting" = some none)
    (a0 : PySem.W.nsIn K mainGlobals "first_negative" = some (some (.ref f0))) (l0 : K.lookup f0 = some ⟨oc0, od0, .func (PySem.W.fnOf "first_negative" "first_negative" (defArgs s_first_negative) (defBody s_first_negative) (defScope s_first_negative) .none kV0 dc0 pm0 an0 cd0 ct0), sl0⟩) (c0 : PySem.W.codeIn K cd0 "first_negative" = true) (k0 : PySem.W.keepIn K (.ref f0) = true)
    (a1 : PySem.W.nsIn K mainGlobals "is_valid_layer" = some (some (.ref f1))) (l1 : K.lookup f1 = some ⟨oc1, od1, .func (PySem.W.fnOf "is_valid_layer" "is_valid_layer" (defArgs s_is_valid_layer) (defBody s_is_valid_layer) (defScope s_is_valid_layer) .none kV1 dc1 pm1 an1 cd1 ct1), sl1⟩) (c1 : PySem.W.codeIn K cd1 "is_valid_layer" = true) (k1 : PySem.W.keepIn K (.ref f1) = true)
    (a2 : PySem.W.nsIn K mainGlobals "check_nesting" = some (some (.ref f2))) (l2 : K.lookup f2 = some ⟨oc2, od2, .func (PySem.W.fnOf "check_nesting" "check_nesting" (defArgs s_check_nesting) (defBody s_check_nesting) (defScope s_check_nesting) .none kV2 dc2 pm2 an2 cd2 ct2), sl2⟩) (c2 : PySem.W.codeIn K cd2 "check_nesting" = true) (k2 : PySem.W.keepIn K (.ref f2) = true)
    (a3 : PySem.W.nsIn K mainGlobals "repeats" = some (some (.ref f3))) (l3 : K.lookup f3 = some ⟨oc3, od3, .func (PySem.W.fnOf "repeats" "repeats" (defArgs s_repeats) (defBody s_repeats) (defScope s_repeats) .none kV3 dc3 pm3 an3 cd3 ct3), sl3⟩) (c3 : PySem.W.codeIn K cd3 "repeats" = true) (k3 : PySem.W.keepIn K (.ref f3) = true)
    (a4 : PySem.W.nsIn K mainGlobals "is_inner_number" = some (some (.ref f4))) (l4 : K.lookup f4 = some ⟨oc4, od4, .func (PySem.W.fnOf "is_inner_number" "is_inner_number" (defArgs s_is_inner_number) (defBody s_is_inner_number) (defScope s_is_inner_number) .none kV4 dc4 pm4 an4 cd4 ct4), sl4⟩) (c4 : PySem.W.codeIn K cd4 "is_inner_number" = true) (k4 : PySem.W.keepIn K (.ref f4) = true)
    (a5 : PySem.W.nsIn K mainGlobals "smallest_inner_number" = some (some (.ref f5))) (l5 : K.lookup f5 = some ⟨oc5, od5, .func (PySem.W.fnOf "smallest_inner_number" "smallest_inner_number" (defArgs s_smallest_inner_number) (defBody s_smallest_inner_number) (defScope s_smallest_inner_number) .none kV5 dc5 pm5 an5 cd5 ct5), sl5⟩) (c5 : PySem.W.codeIn K cd5 "smallest_inner_number" = true) (k5 : PySem.W.keepIn K (.ref f5) = true)
    (a6 : PySem.W.nsIn K mainGlobals "list_parts" = some (some (.ref f6))) (l6 : K.lookup f6 = some ⟨oc6, od6, .func (PySem.W.fnOf "list_parts" "list_parts" (defArgs s_list_parts) (defBody s_list_parts) (defScope s_list_parts) .none kV6 dc6 pm6 an6 cd6 ct6), sl6⟩) (c6 : PySem.W.codeIn K cd6 "list_parts" = true) (k6 : PySem.W.keepIn K (.ref f6) = true)
    (a7 : PySem.W.nsIn K mainGlobals "layer_parts" = some (some (.ref f7))) (l7 : K.lookup f7 = some ⟨oc7, od7, .func (PySem.W.fnOf "layer_parts" "layer_parts" (defArgs s_layer_parts) (defBody s_layer_parts) (defScope s_layer_parts) .none kV7 dc7 pm7 an7 cd7 ct7), sl7⟩) (c7 : PySem.W.codeIn K cd7 "layer_parts" = true) (k7 : PySem.W.keepIn K (.ref f7) = true)
    (a8 : PySem.W.nsIn K mainGlobals "same_constant" = some (some (.ref f8))) (l8 : K.lookup f8 = some ⟨oc8, od8, .func (PySem.W.fnOf "same_constant" "same_constant" (defArgs s_same_constant) (defBody s_same_constant) (defScope s_same_constant) .none kV8 dc8 pm8 an8 cd8 ct8), sl8⟩) (c8 : PySem.W.codeIn K cd8 "same_constant" = true) (k8 : PySem.W.keepIn K (.ref f8) = true)
    (a9 : PySem.W.nsIn K mainGlobals "merged" = some (some (.ref f9))) (l9 : K.lookup f9 = some ⟨oc9, od9, .func (PySem.W.fnOf "merged" "merged" (defArgs s_merged) (defBody s_merged) (defScope s_merged) .none kV9 dc9 pm9 an9 cd9 ct9), sl9⟩) (c9 : PySem.W.codeIn K cd9 "merged" = true) (k9 : PySem.W.keepIn K (.ref f9) = true)
    (a10 : PySem.W.nsIn K mainGlobals "normal_form" = some (some (.ref f10))) (l10 : K.lookup f10 = some ⟨oc10, od10, .func (PySem.W.fnOf "normal_form" "normal_form" (defArgs s_normal_form) (defBody s_normal_form) (defScope s_normal_form) .none kV10 dc10 pm10 an10 cd10 ct10), sl10⟩) (c10 : PySem.W.codeIn K cd10 "normal_form" = true) (k10 : PySem.W.keepIn K (.ref f10) = true)
    (a11 : PySem.W.nsIn K mainGlobals "layer_attempts" = some (some (.ref f11))) (l11 : K.lookup f11 = some ⟨oc11, od11, .func (PySem.W.fnOf "layer_attempts" "layer_attempts" (defArgs s_layer_attempts) (defBody s_layer_attempts) (defScope s_layer_attempts) .none kV11 dc11 pm11 an11 cd11 ct11), sl11⟩) (c11 : PySem.W.codeIn K cd11 "layer_attempts" = true) (k11 : PySem.W.keepIn K (.ref f11) = true)
    (a12 : PySem.W.nsIn K mainGlobals "attempts" = some (some (.ref f12))) (l12 : K.lookup f12 = some ⟨oc12, od12, .func (PySem.W.fnOf "attempts" "attempts" (defArgs s_attempts) (defBody s_attempts) (defScope s_attempts) .none kV12 dc12 pm12 an12 cd12 ct12), sl12⟩) (c12 : PySem.W.codeIn K cd12 "attempts" = true) (k12 : PySem.W.keepIn K (.ref f12) = true)
    (a13 : PySem.W.nsIn K mainGlobals "_law_pool" = some (some (.ref f13))) (l13 : K.lookup f13 = some ⟨oc13, od13, .func (PySem.W.fnOf "_law_pool" "_law_pool" (defArgs s_law_pool) (defBody s_law_pool) (defScope s_law_pool) .none kV13 dc13 pm13 an13 cd13 ct13), sl13⟩) (c13 : PySem.W.codeIn K cd13 "_law_pool" = true) (k13 : PySem.W.keepIn K (.ref f13) = true)
    (a14 : PySem.W.nsIn K mainGlobals "_law_draw" = some (some (.ref f14))) (l14 : K.lookup f14 = some ⟨oc14, od14, .func (PySem.W.fnOf "_law_draw" "_law_draw" (defArgs s_law_draw) (defBody s_law_draw) (defScope s_law_draw) .none kV14 dc14 pm14 an14 cd14 ct14), sl14⟩) (c14 : PySem.W.codeIn K cd14 "_law_draw" = true) (k14 : PySem.W.keepIn K (.ref f14) = true)
    (a15 : PySem.W.nsIn K mainGlobals "_law_size" = some (some (.ref f15))) (l15 : K.lookup f15 = some ⟨oc15, od15, .func (PySem.W.fnOf "_law_size" "_law_size" (defArgs s_law_size) (defBody s_law_size) (defScope s_law_size) .none kV15 dc15 pm15 an15 cd15 ct15), sl15⟩) (c15 : PySem.W.codeIn K cd15 "_law_size" = true) (k15 : PySem.W.keepIn K (.ref f15) = true)
    (a16 : PySem.W.nsIn K mainGlobals "_law_wait" = some (some (.ref f16))) (l16 : K.lookup f16 = some ⟨oc16, od16, .func (PySem.W.fnOf "_law_wait" "_law_wait" (defArgs s_law_wait) (defBody s_law_wait) (defScope s_law_wait) .none kV16 dc16 pm16 an16 cd16 ct16), sl16⟩) (c16 : PySem.W.codeIn K cd16 "_law_wait" = true) (k16 : PySem.W.keepIn K (.ref f16) = true)
    (a17 : PySem.W.nsIn K mainGlobals "_law_tier" = some (some (.ref f17))) (l17 : K.lookup f17 = some ⟨oc17, od17, .func (PySem.W.fnOf "_law_tier" "_law_tier" (defArgs s_law_tier) (defBody s_law_tier) (defScope s_law_tier) .none kV17 dc17 pm17 an17 cd17 ct17), sl17⟩) (c17 : PySem.W.codeIn K cd17 "_law_tier" = true) (k17 : PySem.W.keepIn K (.ref f17) = true)
    (a18 : PySem.W.nsIn K mainGlobals "_law_small" = some (some (.ref f18))) (l18 : K.lookup f18 = some ⟨oc18, od18, .func (PySem.W.fnOf "_law_small" "_law_small" (defArgs s_law_small) (defBody s_law_small) (defScope s_law_small) .none kV18 dc18 pm18 an18 cd18 ct18), sl18⟩) (c18 : PySem.W.codeIn K cd18 "_law_small" = true) (k18 : PySem.W.keepIn K (.ref f18) = true)
    (a19 : PySem.W.nsIn K mainGlobals "_law_flat" = some (some (.ref f19))) (l19 : K.lookup f19 = some ⟨oc19, od19, .func (PySem.W.fnOf "_law_flat" "_law_flat" (defArgs s_law_flat) (defBody s_law_flat) (defScope s_law_flat) .none kV19 dc19 pm19 an19 cd19 ct19), sl19⟩) (c19 : PySem.W.codeIn K cd19 "_law_flat" = true) (k19 : PySem.W.keepIn K (.ref f19) = true)
    (a20 : PySem.W.nsIn K mainGlobals "_law_near" = some (some (.ref f20))) (l20 : K.lookup f20 = some ⟨oc20, od20, .func (PySem.W.fnOf "_law_near" "_law_near" (defArgs s_law_near) (defBody s_law_near) (defScope s_law_near) .none kV20 dc20 pm20 an20 cd20 ct20), sl20⟩) (c20 : PySem.W.codeIn K cd20 "_law_near" = true) (k20 : PySem.W.keepIn K (.ref f20) = true)
    (a21 : PySem.W.nsIn K mainGlobals "_law_rewritten" = some (some (.ref f21))) (l21 : K.lookup f21 = some ⟨oc21, od21, .func (PySem.W.fnOf "_law_rewritten" "_law_rewritten" (defArgs s_law_rewritten) (defBody s_law_rewritten) (defScope s_law_rewritten) .none kV21 dc21 pm21 an21 cd21 ct21), sl21⟩) (c21 : PySem.W.codeIn K cd21 "_law_rewritten" = true) (k21 : PySem.W.keepIn K (.ref f21) = true)
    (a22 : PySem.W.nsIn K mainGlobals "_law_right" = some (some (.ref f22))) (l22 : K.lookup f22 = some ⟨oc22, od22, .func (PySem.W.fnOf "_law_right" "_law_right" (defArgs s_law_right) (defBody s_law_right) (defScope s_law_right) .none kV22 dc22 pm22 an22 cd22 ct22), sl22⟩) (c22 : PySem.W.codeIn K cd22 "_law_right" = true) (k22 : PySem.W.keepIn K (.ref f22) = true)
    (a23 : PySem.W.nsIn K mainGlobals "law" = some (some (.ref f23))) (l23 : K.lookup f23 = some ⟨oc23, od23, .func (PySem.W.fnOf "law" "law" (defArgs s_law) (defBody s_law) (defScope s_law) .none kV23 dc23 pm23 an23 cd23 ct23), sl23⟩) (c23 : PySem.W.codeIn K cd23 "law" = true) (k23 : PySem.W.keepIn K (.ref f23) = true)
    (a24 : PySem.W.findIn K (.ref C_Runner) "__init__" = some (some (.ref f24))) (i24 : PySem.W.isFn K (.ref f24) = true) (l24 : K.lookup f24 = some ⟨oc24, od24, .func (PySem.W.fnOf "__init__" "Runner.__init__" (defArgs s_Runner_init) (defBody s_Runner_init) (defScope s_Runner_init) .none kV24 dc24 pm24 an24 cd24 ct24), sl24⟩) (c24 : PySem.W.codeIn K cd24 "Runner.__init__" = true) (k24 : PySem.W.keepIn K (.ref f24) = true)
    (a25 : PySem.W.findIn K (.ref C_Runner) "__eq__" = some (some (.ref f25))) (i25 : PySem.W.isFn K (.ref f25) = true) (l25 : K.lookup f25 = some ⟨oc25, od25, .func (PySem.W.fnOf "__eq__" "Runner.__eq__" (defArgs s_Runner_eq) (defBody s_Runner_eq) (defScope s_Runner_eq) .none kV25 dc25 pm25 an25 cd25 ct25), sl25⟩) (c25 : PySem.W.codeIn K cd25 "Runner.__eq__" = true) (k25 : PySem.W.keepIn K (.ref f25) = true)
    (a26 : PySem.W.findIn K (.ref C_Runner) "left" = some (some (.ref f26))) (i26 : PySem.W.isFn K (.ref f26) = true) (l26 : K.lookup f26 = some ⟨oc26, od26, .func (PySem.W.fnOf "left" "Runner.left" (defArgs s_Runner_left) (defBody s_Runner_left) (defScope s_Runner_left) .none kV26 dc26 pm26 an26 cd26 ct26), sl26⟩) (c26 : PySem.W.codeIn K cd26 "Runner.left" = true) (k26 : PySem.W.keepIn K (.ref f26) = true)
    {dT27 : Addr} {do27 : Value} {dd27 : Option Addr} {dK27 : Tok} {dn27 : Nat} {ds27 : Array (Option Value)}    (a27 : PySem.W.findIn K (.ref C_Runner) "fail" = some (some (.ref f27))) (i27 : PySem.W.isFn K (.ref f27) = true) (l27 : K.lookup f27 = some ⟨oc27, od27, .func (PySem.W.fnOf "fail" "Runner.fail" (defArgs s_Runner_fail) (defBody s_Runner_fail) (defScope s_Runner_fail) (.ref dT27) kV27 dc27 pm27 an27 cd27 ct27), sl27⟩) (c27 : PySem.W.codeIn K cd27 "Runner.fail" = true) (k27 : PySem.W.keepIn K (.ref f27) = true) (dl27 : K.lookup dT27 = some ⟨do27, dd27, .seq #[.int 1 dK27] dn27, ds27⟩)
    (a28 : PySem.W.findIn K (.ref C_Runner) "wrap" = some (some (.ref f28))) (i28 : PySem.W.isFn K (.ref f28) = true) (l28 : K.lookup f28 = some ⟨oc28, od28, .func (PySem.W.fnOf "wrap" "Runner.wrap" (defArgs s_Runner_wrap) (defBody s_Runner_wrap) (defScope s_Runner_wrap) .none kV28 dc28 pm28 an28 cd28 ct28), sl28⟩) (c28 : PySem.W.codeIn K cd28 "Runner.wrap" = true) (k28 : PySem.W.keepIn K (.ref f28) = true)
    (z0 : PySem.W.nsIn K mainGlobals "abs" = some none)
    (z1 : PySem.W.nsIn K mainGlobals "enumerate" = some none)
    (z2 : PySem.W.nsIn K mainGlobals "isinstance" = some none)
    (z3 : PySem.W.nsIn K mainGlobals "len" = some none)
    (z4 : PySem.W.nsIn K mainGlobals "list" = some none)
    (z5 : PySem.W.nsIn K mainGlobals "max" = some none)
    (z6 : PySem.W.nsIn K mainGlobals "min" = some none)
    (z7 : PySem.W.nsIn K mainGlobals "range" = some none)
    (z8 : PySem.W.nsIn K mainGlobals "tuple" = some none)
    : ∃ fd : FuncData, (∀ (s : Shared) (v : Value), BindsTo s fd ⟨[v], []⟩ [("script", v)]) ∧ ∀ base : Heap, K.In base → base.Ns mainGlobals mg → FnOk l.prog w K mg base CX0 lvl_law fa fd ["script"] (sp_law K) := by
  have e := hfa.symm.trans (PySem.W.mg_of X G a23)
  cases e
  have F0 := fun_mk (st := s_first_negative) l0 c0 k0
  have F1 := fun_mk (st := s_is_valid_layer) l1 c1 k1
  have F2 := fun_mk (st := s_check_nesting) l2 c2 k2
  have F3 := fun_mk (st := s_repeats) l3 c3 k3
  have F4 := fun_mk (st := s_is_inner_number) l4 c4 k4
  have F5 := fun_mk (st := s_smallest_inner_number) l5 c5 k5
  have F6 := fun_mk (st := s_list_parts) l6 c6 k6
  have F7 := fun_mk (st := s_layer_parts) l7 c7 k7
  have F8 := fun_mk (st := s_same_constant) l8 c8 k8
  have F9 := fun_mk (st := s_merged) l9 c9 k9
  have F10 := fun_mk (st := s_normal_form) l10 c10 k10
  have F11 := fun_mk (st := s_layer_attempts) l11 c11 k11
  have F12 := fun_mk (st := s_attempts) l12 c12 k12
  have F13 := fun_mk (st := s_law_pool) l13 c13 k13
  have F14 := fun_mk (st := s_law_draw) l14 c14 k14
  have F15 := fun_mk (st := s_law_size) l15 c15 k15
  have F16 := fun_mk (st := s_law_wait) l16 c16 k16
  have F17 := fun_mk (st := s_law_tier) l17 c17 k17
  have F18 := fun_mk (st := s_law_small) l18 c18 k18
  have F19 := fun_mk (st := s_law_flat) l19 c19 k19
  have F20 := fun_mk (st := s_law_near) l20 c20 k20
  have F21 := fun_mk (st := s_law_rewritten) l21 c21 k21
  have F22 := fun_mk (st := s_law_right) l22 c22 k22
  have F23 := fun_mk (st := s_law) l23 c23 k23
  have F24 := fun_mk (st := s_Runner_init) l24 c24 k24
  have F25 := fun_mk (st := s_Runner_eq) l25 c25 k25
  have F26 := fun_mk (st := s_Runner_left) l26 c26 k26
  have F27 := (FunD.mk (fd := _) ⟨_, _, _, _, _, _, _, _, _, _, rfl, l27, c27, .inr ⟨List.cons_ne_nil _ _, _, _, [.int 1 dK27], _, rfl, dl27, rfl, .cons ⟨_, rfl⟩ .nil⟩, .inl rfl⟩ k27 : FunD K "fail" "Runner.fail" (defArgs s_Runner_fail) (defBody s_Runner_fail) (defScope s_Runner_fail) [V.int 1] [] f27 _)
  have F28 := fun_mk (st := s_Runner_wrap) l28 c28 k28
  have b0 := F0.binds (ps := ["waits"]) fun _ _ _ _ _ _ us hl => match us, hl with | [_], _ => rfl
  have b1 := F1.binds (ps := ["layer"]) fun _ _ _ _ _ _ us hl => match us, hl with | [_], _ => rfl
  have b2 := F2.binds (ps := ["nesting"]) fun _ _ _ _ _ _ us hl => match us, hl with | [_], _ => rfl
  have b3 := F3.binds (ps := ["waits", "number"]) fun _ _ _ _ _ _ us hl => match us, hl with | [_, _], _ => rfl
  have b4 := F4.binds (ps := ["waits", "number"]) fun _ _ _ _ _ _ us hl => match us, hl with | [_, _], _ => rfl
  have b5 := F5.binds (ps := ["waits"]) fun _ _ _ _ _ _ us hl => match us, hl with | [_], _ => rfl
  have b6 := F6.binds (ps := ["waits"]) fun _ _ _ _ _ _ us hl => match us, hl with | [_], _ => rfl
  have b7 := F7.binds (ps := ["layer"]) fun _ _ _ _ _ _ us hl => match us, hl with | [_], _ => rfl
  have b8 := F8.binds (ps := ["first", "second"]) fun _ _ _ _ _ _ us hl => match us, hl with | [_, _], _ => rfl
  have b9 := F9.binds (ps := ["layers"]) fun _ _ _ _ _ _ us hl => match us, hl with | [_], _ => rfl
  have b10 := F10.binds (ps := ["nesting"]) fun _ _ _ _ _ _ us hl => match us, hl with | [_], _ => rfl
  have b11 := F11.binds (ps := ["layer"]) fun _ _ _ _ _ _ us hl => match us, hl with | [_], _ => rfl
  have b12 := F12.binds (ps := ["nesting"]) fun _ _ _ _ _ _ us hl => match us, hl with | [_], _ => rfl
  have b13 := F13.binds (ps := ["script", "at"]) fun _ _ _ _ _ _ us hl => match us, hl with | [_, _], _ => rfl
  have b14 := F14.binds (ps := ["pool", "many"]) fun _ _ _ _ _ _ us hl => match us, hl with | [_, _], _ => rfl
  have b15 := F15.binds (ps := ["tier"]) fun _ _ _ _ _ _ us hl => match us, hl with | [_], _ => rfl
  have b16 := F16.binds (ps := ["pool"]) fun _ _ _ _ _ _ us hl => match us, hl with | [_], _ => rfl
  have b17 := F17.binds (ps := ["pool", "most"]) fun _ _ _ _ _ _ us hl => match us, hl with | [_, _], _ => rfl
  have b18 := F18.binds (ps := ["pool", "most"]) fun _ _ _ _ _ _ us hl => match us, hl with | [_, _], _ => rfl
  have b19 := F19.binds (ps := ["layers"]) fun _ _ _ _ _ _ us hl => match us, hl with | [_], _ => rfl
  have b20 := F20.binds (ps := ["wait"]) fun _ _ _ _ _ _ us hl => match us, hl with | [_], _ => rfl
  have b21 := F21.binds (ps := ["pool", "layers"]) fun _ _ _ _ _ _ us hl => match us, hl with | [_, _], _ => rfl
  have b22 := F22.binds (ps := ["pool"]) fun _ _ _ _ _ _ us hl => match us, hl with | [_], _ => rfl
  have b23 := F23.binds (ps := ["script"]) fun _ _ _ _ _ _ us hl => match us, hl with | [_], _ => rfl
  have b24 := F24.binds (ps := ["self", "nesting"]) fun _ _ _ _ _ _ us hl => match us, hl with | [_, _], _ => rfl
  have b25 := F25.binds (ps := ["self", "other"]) fun _ _ _ _ _ _ us hl => match us, hl with | [_, _], _ => rfl
  have b26 := F26.binds (ps := ["self"]) fun _ _ _ _ _ _ us hl => match us, hl with | [_], _ => rfl
  obtain ⟨e27, ve27, b27⟩ := F27.binds1 (ps := ["self", "times"]) 2 1 (List.cons_ne_nil _ _) rfl (fun _ _ _ _ _ _ _ us its h1 h2 => match us, its, h1, h2 with | [_, _], [_], _, _ => ⟨_, rfl, rfl⟩)
  obtain rfl : e27 = [] := by cases ve27; rfl
  obtain ⟨ed27, vd27, bd27⟩ := F27.binds1 (ps := ["self", "times"]) 1 0 (List.cons_ne_nil _ _) rfl (fun _ _ _ _ _ _ _ us its h1 h2 => match us, its, h1, h2 with | [_], [_], _, _ => ⟨_, rfl, rfl⟩)
  have b28 := F28.binds (ps := ["self", "layer"]) fun _ _ _ _ _ _ us hl => match us, hl with | [_, _], _ => rfl
  obtain ⟨ik27, kn27⟩ := F27.kbindsD (ps := ["self", "times"]) 1 ["times"] (fun us _ ws => us ++ ws) (List.cons_ne_nil _ _) (fun r1 _ r3 => r1.append r3) (fun _ _ _ _ _ _ _ us its ws h1 h2 h3 => match us, its, ws, h1, h2, h3 with | [_], [_], [_], _, _, _ => ⟨_, rfl, rfl⟩)
  have T : Txt l.prog K mg := ⟨_, _, PySem.VeX.ve_mk X G aC_InvalidLayer aS xL_InvalidLayer (by with_unfolding_all rfl) sa_InvalidLayer ga_InvalidLayer gg_InvalidLayer nN_InvalidLayer iC_InvalidLayer tC_InvalidLayer kC_InvalidLayer eC_InvalidLayer vC_InvalidLayer yC_InvalidLayer hC_InvalidLayer mC_InvalidLayer (PySem.VeX.ve_sup xL_InvalidLayer xR_InvalidLayer fR_InvalidLayer) op top lI_InvalidLayer cI_InvalidLayer rfl cd_InvalidLayer fv_InvalidLayer fm_InvalidLayer ce_InvalidLayer, _, _, PySem.VeX.ve_mk X G aC_InvalidNumber aS xL_InvalidNumber (by with_unfolding_all rfl) sa_InvalidNumber ga_InvalidNumber gg_InvalidNumber nN_InvalidNumber iC_InvalidNumber tC_InvalidNumber kC_InvalidNumber eC_InvalidNumber vC_InvalidNumber yC_InvalidNumber hC_InvalidNumber mC_InvalidNumber (PySem.VeX.ve_sup xL_InvalidNumber xR_InvalidNumber fR_InvalidNumber) op top lI_InvalidNumber cI_InvalidNumber rfl cd_InvalidNumber fv_InvalidNumber fm_InvalidNumber ce_InvalidNumber, _, _, PySem.VeX.ve_mk X G aC_NoMoreAttempts aS xL_NoMoreAttempts (by with_unfolding_all rfl) sa_NoMoreAttempts ga_NoMoreAttempts gg_NoMoreAttempts nN_NoMoreAttempts iC_NoMoreAttempts tC_NoMoreAttempts kC_NoMoreAttempts eC_NoMoreAttempts vC_NoMoreAttempts yC_NoMoreAttempts hC_NoMoreAttempts mC_NoMoreAttempts (PySem.VeX.ve_sup xL_NoMoreAttempts xR_NoMoreAttempts fR_NoMoreAttempts) op top lI_NoMoreAttempts cI_NoMoreAttempts rfl cd_NoMoreAttempts fv_NoMoreAttempts fm_NoMoreAttempts ce_NoMoreAttempts, f0, _, F0, PySem.W.mg_of X G a0, b0, f1, _, F1, PySem.W.mg_of X G a1, b1, f2, _, F2, PySem.W.mg_of X G a2, b2, f3, _, F3, PySem.W.mg_of X G a3, b3, f4, _, F4, PySem.W.mg_of X G a4, b4, f5, _, F5, PySem.W.mg_of X G a5, b5, f6, _, F6, PySem.W.mg_of X G a6, b6, f7, _, F7, PySem.W.mg_of X G a7, b7, f8, _, F8, PySem.W.mg_of X G a8, b8, f9, _, F9, PySem.W.mg_of X G a9, b9, f10, _, F10, PySem.W.mg_of X G a10, b10, f11, _, F11, PySem.W.mg_of X G a11, b11, f12, _, F12, PySem.W.mg_of X G a12, b12, f13, _, F13, PySem.W.mg_of X G a13, b13, f14, _, F14, PySem.W.mg_of X G a14, b14, f15, _, F15, PySem.W.mg_of X G a15, b15, f16, _, F16, PySem.W.mg_of X G a16, b16, f17, _, F17, PySem.W.mg_of X G a17, b17, f18, _, F18, PySem.W.mg_of X G a18, b18, f19, _, F19, PySem.W.mg_of X G a19, b19, f20, _, F20, PySem.W.mg_of X G a20, b20, f21, _, F21, PySem.W.mg_of X G a21, b21, f22, _, F22, PySem.W.mg_of X G a22, b22, fa, _, F23, PySem.W.mg_of X G a23, b23, f24, _, F24, b24, f25, _, F25, b25, f26, _, F26, b26, f27, _, F27, b27, _, vd27, bd27, f28, _, F28, b28, ⟨fun s us ws _ h1 h2 => match us, ws, h1, h2 with | [_], [_], _, _ => .of_eq rfl, fun r1 r2 => r1.append r2⟩, kn27, ⟨fun s us ws _ h1 h2 => match us, ws, h1, h2 with | [_], [_], _, _ => .of_eq rfl, fun r1 r2 => r1.append r2⟩, C_Runner, PySem.W.mg_of X G aC_Runner, ⟨pg_Runner, hd_Runner, po_Runner, sa_Runner⟩, n_attempt, n_nesting, ⟨mk_Runner, a24, i24, kc_Runner⟩, ⟨a25, i25, k25⟩, ⟨a26, i26, k26⟩, ⟨a27, i27, k27⟩, ⟨a28, i28, k28⟩, ⟨⟨pg_Runner, hd_Runner, po_Runner, sa_Runner⟩, xa_Runner, xn, xt, xm_Runner, ki_Runner⟩, ⟨⟨a25, i25, k25⟩, ne_Runner, xm_Runner⟩, ⟨nk_NoneType_Runner, nk_int_Runner, nk_str_Runner, nk_list_Runner⟩, (fun t h => by rcases h with rfl | rfl | rfl | rfl <;> assumption), PySem.W.mg_none_of X G z0, PySem.W.mg_none_of X G z1, PySem.W.mg_none_of X G z2, PySem.W.mg_none_of X G z3, PySem.W.mg_none_of X G z4, PySem.W.mg_none_of X G z5, PySem.W.mg_none_of X G z6, PySem.W.mg_none_of X G z7, PySem.W.mg_none_of X G z8⟩
  exact ⟨_, fun s v => .of_eq rfl, fun base _ _ => ok_law ⟨_, _, PySem.VeX.ve_mk X G aC_InvalidLayer aS xL_InvalidLayer (by with_unfolding_all rfl) sa_InvalidLayer ga_InvalidLayer gg_InvalidLayer nN_InvalidLayer iC_InvalidLayer tC_InvalidLayer kC_InvalidLayer eC_InvalidLayer vC_InvalidLayer yC_InvalidLayer hC_InvalidLayer mC_InvalidLayer (PySem.VeX.ve_sup xL_InvalidLayer xR_InvalidLayer fR_InvalidLayer) op top lI_InvalidLayer cI_InvalidLayer rfl cd_InvalidLayer fv_InvalidLayer fm_InvalidLayer ce_InvalidLayer, _, _, PySem.VeX.ve_mk X G aC_InvalidNumber aS xL_InvalidNumber (by with_unfolding_all rfl) sa_InvalidNumber ga_InvalidNumber gg_InvalidNumber nN_InvalidNumber iC_InvalidNumber tC_InvalidNumber kC_InvalidNumber eC_InvalidNumber vC_InvalidNumber yC_InvalidNumber hC_InvalidNumber mC_InvalidNumber (PySem.VeX.ve_sup xL_InvalidNumber xR_InvalidNumber fR_InvalidNumber) op top lI_InvalidNumber cI_InvalidNumber rfl cd_InvalidNumber fv_InvalidNumber fm_InvalidNumber ce_InvalidNumber, _, _, PySem.VeX.ve_mk X G aC_NoMoreAttempts aS xL_NoMoreAttempts (by with_unfolding_all rfl) sa_NoMoreAttempts ga_NoMoreAttempts gg_NoMoreAttempts nN_NoMoreAttempts iC_NoMoreAttempts tC_NoMoreAttempts kC_NoMoreAttempts eC_NoMoreAttempts vC_NoMoreAttempts yC_NoMoreAttempts hC_NoMoreAttempts mC_NoMoreAttempts (PySem.VeX.ve_sup xL_NoMoreAttempts xR_NoMoreAttempts fR_NoMoreAttempts) op top lI_NoMoreAttempts cI_NoMoreAttempts rfl cd_NoMoreAttempts fv_NoMoreAttempts fm_NoMoreAttempts ce_NoMoreAttempts, f0, _, F0, PySem.W.mg_of X G a0, b0, f1, _, F1, PySem.W.mg_of X G a1, b1, f2, _, F2, PySem.W.mg_of X G a2, b2, f3, _, F3, PySem.W.mg_of X G a3, b3, f4, _, F4, PySem.W.mg_of X G a4, b4, f5, _, F5, PySem.W.mg_of X G a5, b5, f6, _, F6, PySem.W.mg_of X G a6, b6, f7, _, F7, PySem.W.mg_of X G a7, b7, f8, _, F8, PySem.W.mg_of X G a8, b8, f9, _, F9, PySem.W.mg_of X G a9, b9, f10, _, F10, PySem.W.mg_of X G a10, b10, f11, _, F11, PySem.W.mg_of X G a11, b11, f12, _, F12, PySem.W.mg_of X G a12, b12, f13, _, F13, PySem.W.mg_of X G a13, b13, f14, _, F14, PySem.W.mg_of X G a14, b14, f15, _, F15, PySem.W.mg_of X G a15, b15, f16, _, F16, PySem.W.mg_of X G a16, b16, f17, _, F17, PySem.W.mg_of X G a17, b17, f18, _, F18, PySem.W.mg_of X G a18, b18, f19, _, F19, PySem.W.mg_of X G a19, b19, f20, _, F20, PySem.W.mg_of X G a20, b20, f21, _, F21, PySem.W.mg_of X G a21, b21, f22, _, F22, PySem.W.mg_of X G a22, b22, fa, _, F23, PySem.W.mg_of X G a23, b23, f24, _, F24, b24, f25, _, F25, b25, f26, _, F26, b26, f27, _, F27, b27, _, vd27, bd27, f28, _, F28, b28, ⟨fun s us ws _ h1 h2 => match us, ws, h1, h2 with | [_], [_], _, _ => .of_eq rfl, fun r1 r2 => r1.append r2⟩, kn27, ⟨fun s us ws _ h1 h2 => match us, ws, h1, h2 with | [_], [_], _, _ => .of_eq rfl, fun r1 r2 => r1.append r2⟩, C_Runner, PySem.W.mg_of X G aC_Runner, ⟨pg_Runner, hd_Runner, po_Runner, sa_Runner⟩, n_attempt, n_nesting, ⟨mk_Runner, a24, i24, kc_Runner⟩, ⟨a25, i25, k25⟩, ⟨a26, i26, k26⟩, ⟨a27, i27, k27⟩, ⟨a28, i28, k28⟩, ⟨⟨pg_Runner, hd_Runner, po_Runner, sa_Runner⟩, xa_Runner, xn, xt, xm_Runner, ki_Runner⟩, ⟨⟨a25, i25, k25⟩, ne_Runner, xm_Runner⟩, ⟨nk_NoneType_Runner, nk_int_Runner, nk_str_Runner, nk_list_Runner⟩, (fun t h => by rcases h with rfl | rfl | rfl | rfl <;> assumption), PySem.W.mg_none_of X G z0, PySem.W.mg_none_of X G z1, PySem.W.mg_none_of X G z2, PySem.W.mg_none_of X G z3, PySem.W.mg_none_of X G z4, PySem.W.mg_none_of X G z5, PySem.W.mg_none_of X G z6, PySem.W.mg_none_of X G z7, PySem.W.mg_none_of X G z8⟩⟩
end Rn
open PySem PySem.W PyProof.Rows
set_option maxRecDepth 100000 in
set_option maxHeartbeats 0 in
theorem PySem.Challenge.cw_retrynest_k25_equal_runners_and_copies_holds : PySem.Challenge.rw_retrynest_k25_equal_runners_and_copies.Holds := by
  w_on; o_law; k_head; (case hw => w_witness2)
  k_fill
  refine L2.walk_ofK (l := PySem.Challenge.rw_retrynest_k25_equal_runners_and_copies) (n := 63) (k := Rn.lvl_law) (x := "script") (CX := L2.CX0) (sp := Rn.sp_law) rfl (by decide) rfl ⟨rfl, by decide, by decide⟩ (fun w h Y => PySem.W.kIn_of Y) ?F (fun _ _ a ns hl _ hS => ⟨a, ns, rfl, hS, hl, fun _ => rfl⟩) (fun _ _ _ _ h => h)
  case F =>
    intro w mg fa h KX G hmg
    refine' Rn.all_mk KX G hmg ?aC_InvalidLayer ?xL_InvalidLayer ?sa_InvalidLayer ?ga_InvalidLayer ?gg_InvalidLayer ?nN_InvalidLayer ?iC_InvalidLayer ?tC_InvalidLayer ?kC_InvalidLayer ?eC_InvalidLayer ?vC_InvalidLayer ?yC_InvalidLayer ?hC_InvalidLayer ?mC_InvalidLayer ?xR_InvalidLayer ?fR_InvalidLayer ?lI_InvalidLayer ?cI_InvalidLayer ?cd_InvalidLayer ?fv_InvalidLayer ?fm_InvalidLayer ?ce_InvalidLayer ?ic_InvalidLayer ?aC_InvalidNumber ?xL_InvalidNumber ?sa_InvalidNumber ?ga_InvalidNumber ?gg_InvalidNumber ?nN_InvalidNumber ?iC_InvalidNumber ?tC_InvalidNumber ?kC_InvalidNumber ?eC_InvalidNumber ?vC_InvalidNumber ?yC_InvalidNumber ?hC_InvalidNumber ?mC_InvalidNumber ?xR_InvalidNumber ?fR_InvalidNumber ?lI_InvalidNumber ?cI_InvalidNumber ?cd_InvalidNumber ?fv_InvalidNumber ?fm_InvalidNumber ?ce_InvalidNumber ?ic_InvalidNumber ?aC_NoMoreAttempts ?xL_NoMoreAttempts ?sa_NoMoreAttempts ?ga_NoMoreAttempts ?gg_NoMoreAttempts ?nN_NoMoreAttempts ?iC_NoMoreAttempts ?tC_NoMoreAttempts ?kC_NoMoreAttempts ?eC_NoMoreAttempts ?vC_NoMoreAttempts ?yC_NoMoreAttempts ?hC_NoMoreAttempts ?mC_NoMoreAttempts ?xR_NoMoreAttempts ?fR_NoMoreAttempts ?lI_NoMoreAttempts ?cI_NoMoreAttempts ?cd_NoMoreAttempts ?fv_NoMoreAttempts ?fm_NoMoreAttempts ?ce_NoMoreAttempts ?ic_NoMoreAttempts ?xn ?xt ?aS ?op ?top ?aC_Runner ?pg_Runner ?hd_Runner ?po_Runner ?sa_Runner ?mk_Runner ?kc_Runner ?xm_Runner ?xa_Runner ?ki_Runner ?ne_Runner ?nk_NoneType_Runner ?nk_int_Runner ?nk_str_Runner ?nk_list_Runner ?kt_NoneType_Runner ?kt_int_Runner ?kt_str_Runner ?kt_list_Runner ?n_attempt ?n_nesting ?a0 ?l0 ?c0 ?k0 ?a1 ?l1 ?c1 ?k1 ?a2 ?l2 ?c2 ?k2 ?a3 ?l3 ?c3 ?k3 ?a4 ?l4 ?c4 ?k4 ?a5 ?l5 ?c5 ?k5 ?a6 ?l6 ?c6 ?k6 ?a7 ?l7 ?c7 ?k7 ?a8 ?l8 ?c8 ?k8 ?a9 ?l9 ?c9 ?k9 ?a10 ?l10 ?c10 ?k10 ?a11 ?l11 ?c11 ?k11 ?a12 ?l12 ?c12 ?k12 ?a13 ?l13 ?c13 ?k13 ?a14 ?l14 ?c14 ?k14 ?a15 ?l15 ?c15 ?k15 ?a16 ?l16 ?c16 ?k16 ?a17 ?l17 ?c17 ?k17 ?a18 ?l18 ?c18 ?k18 ?a19 ?l19 ?c19 ?k19 ?a20 ?l20 ?c20 ?k20 ?a21 ?l21 ?c21 ?k21 ?a22 ?l22 ?c22 ?k22 ?a23 ?l23 ?c23 ?k23 ?a24 ?i24 ?l24 ?c24 ?k24 ?a25 ?i25 ?l25 ?c25 ?k25 ?a26 ?i26 ?l26 ?c26 ?k26 ?a27 ?i27 ?l27 ?c27 ?k27 ?dl27 ?a28 ?i28 ?l28 ?c28 ?k28 ?z0 ?z1 ?z2 ?z3 ?z4 ?z5 ?z6 ?z7 ?z8
    (case aC_InvalidLayer => k_is); (case xL_InvalidLayer => k_is); (case sa_InvalidLayer => k_is); (case ga_InvalidLayer => k_is); (case gg_InvalidLayer => k_is)
    (case nN_InvalidLayer => k_is); (case iC_InvalidLayer => k_is); (case tC_InvalidLayer => k_is); (case kC_InvalidLayer => k_is); (case eC_InvalidLayer => k_is)
    (case vC_InvalidLayer => k_is); (case yC_InvalidLayer => k_is); (case hC_InvalidLayer => k_is); (case mC_InvalidLayer => k_is); (case xR_InvalidLayer => k_is)
    (case fR_InvalidLayer => k_is); (case lI_InvalidLayer => k_is); (case cI_InvalidLayer => k_is); (case cd_InvalidLayer => k_is); (case fv_InvalidLayer => first | rfl | decide +kernel | k_is)
    (case fm_InvalidLayer => first | rfl | decide +kernel | k_is); (case ce_InvalidLayer => k_is); (case ic_InvalidLayer => k_is); (case aC_InvalidNumber => k_is)
    (case xL_InvalidNumber => k_is); (case sa_InvalidNumber => k_is); (case ga_InvalidNumber => k_is); (case gg_InvalidNumber => k_is); (case nN_InvalidNumber => k_is)
    (case iC_InvalidNumber => k_is); (case tC_InvalidNumber => k_is); (case kC_InvalidNumber => k_is); (case eC_InvalidNumber => k_is); (case vC_InvalidNumber => k_is)
    (case yC_InvalidNumber => k_is); (case hC_InvalidNumber => k_is); (case mC_InvalidNumber => k_is); (case xR_InvalidNumber => k_is); (case fR_InvalidNumber => k_is)
    (case lI_InvalidNumber => k_is); (case cI_InvalidNumber => k_is); (case cd_InvalidNumber => k_is); (case fv_InvalidNumber => first | rfl | decide +kernel | k_is)
    (case fm_InvalidNumber => first | rfl | decide +kernel | k_is); (case ce_InvalidNumber => k_is); (case ic_InvalidNumber => k_is); (case aC_NoMoreAttempts => k_is)
    (case xL_NoMoreAttempts => k_is); (case sa_NoMoreAttempts => k_is); (case ga_NoMoreAttempts => k_is); (case gg_NoMoreAttempts => k_is); (case nN_NoMoreAttempts => k_is)
    (case iC_NoMoreAttempts => k_is); (case tC_NoMoreAttempts => k_is); (case kC_NoMoreAttempts => k_is); (case eC_NoMoreAttempts => k_is); (case vC_NoMoreAttempts => k_is)
    (case yC_NoMoreAttempts => k_is); (case hC_NoMoreAttempts => k_is); (case mC_NoMoreAttempts => k_is); (case xR_NoMoreAttempts => k_is); (case fR_NoMoreAttempts => k_is)
    (case lI_NoMoreAttempts => k_is); (case cI_NoMoreAttempts => k_is); (case cd_NoMoreAttempts => k_is); (case fv_NoMoreAttempts => first | rfl | decide +kernel | k_is)
    (case fm_NoMoreAttempts => first | rfl | decide +kernel | k_is); (case ce_NoMoreAttempts => k_is); (case ic_NoMoreAttempts => k_is); (case xn => k_is); (case xt => k_is)
    (case aS => k_is); (case op => k_is); (case top => first | rfl | decide +kernel); (case aC_Runner => k_is); (case pg_Runner => k_is); (case hd_Runner => k_is)
    (case po_Runner => k_is); (case sa_Runner => k_is); (case mk_Runner => k_is); (case kc_Runner => k_is); (case xm_Runner => k_is); (case xa_Runner => k_is); (case ki_Runner => first | rfl | k_is)
    (case ne_Runner => k_is); (case nk_NoneType_Runner => k_is); (case nk_int_Runner => k_is); (case nk_str_Runner => k_is); (case nk_list_Runner => k_is); (case kt_NoneType_Runner => first | rfl | k_is | decide +kernel)
    (case kt_int_Runner => first | rfl | k_is | decide +kernel); (case kt_str_Runner => first | rfl | k_is | decide +kernel); (case kt_list_Runner => first | rfl | k_is | decide +kernel)
    (case n_attempt => k_is); (case n_nesting => k_is); (case a0 => k_is); (case l0 => k_is); (case c0 => k_is); (case k0 => k_is); (case a1 => k_is); (case l1 => k_is)
    (case c1 => k_is); (case k1 => k_is); (case a2 => k_is); (case l2 => k_is); (case c2 => k_is); (case k2 => k_is); (case a3 => k_is); (case l3 => k_is); (case c3 => k_is)
    (case k3 => k_is); (case a4 => k_is); (case l4 => k_is); (case c4 => k_is); (case k4 => k_is); (case a5 => k_is); (case l5 => k_is); (case c5 => k_is); (case k5 => k_is)
    (case a6 => k_is); (case l6 => k_is); (case c6 => k_is); (case k6 => k_is); (case a7 => k_is); (case l7 => k_is); (case c7 => k_is); (case k7 => k_is); (case a8 => k_is)
    (case l8 => k_is); (case c8 => k_is); (case k8 => k_is); (case a9 => k_is); (case l9 => k_is); (case c9 => k_is); (case k9 => k_is); (case a10 => k_is); (case l10 => k_is)
    (case c10 => k_is); (case k10 => k_is); (case a11 => k_is); (case l11 => k_is); (case c11 => k_is); (case k11 => k_is); (case a12 => k_is); (case l12 => k_is)
    (case c12 => k_is); (case k12 => k_is); (case a13 => k_is); (case l13 => k_is); (case c13 => k_is); (case k13 => k_is); (case a14 => k_is); (case l14 => k_is)
    (case c14 => k_is); (case k14 => k_is); (case a15 => k_is); (case l15 => k_is); (case c15 => k_is); (case k15 => k_is); (case a16 => k_is); (case l16 => k_is)
    (case c16 => k_is); (case k16 => k_is); (case a17 => k_is); (case l17 => k_is); (case c17 => k_is); (case k17 => k_is); (case a18 => k_is); (case l18 => k_is)
    (case c18 => k_is); (case k18 => k_is); (case a19 => k_is); (case l19 => k_is); (case c19 => k_is); (case k19 => k_is); (case a20 => k_is); (case l20 => k_is)
    (case c20 => k_is); (case k20 => k_is); (case a21 => k_is); (case l21 => k_is); (case c21 => k_is); (case k21 => k_is); (case a22 => k_is); (case l22 => k_is)
    (case c22 => k_is); (case k22 => k_is); (case a23 => k_is); (case l23 => k_is); (case c23 => k_is); (case k23 => k_is); (case a24 => k_is); (case i24 => k_is)
    (case l24 => k_is); (case c24 => k_is); (case k24 => k_is); (case a25 => k_is); (case i25 => k_is); (case l25 => k_is); (case c25 => k_is); (case k25 => k_is)
    (case a26 => k_is); (case i26 => k_is); (case l26 => k_is); (case c26 => k_is); (case k26 => k_is); (case a27 => k_is); (case i27 => k_is); (case l27 => k_is)
    (case c27 => k_is); (case k27 => k_is); (case dl27 => k_is); (case a28 => k_is); (case i28 => k_is); (case l28 => k_is); (case c28 => k_is); (case k28 => k_is)
    (case z0 => k_is); (case z1 => k_is); (case z2 => k_is); (case z3 => k_is); (case z4 => k_is); (case z5 => k_is); (case z6 => k_is); (case z7 => k_is); (case z8 => k_is)
