import PyProof.Rows.All
import Wide.All
import OpenK.AllK
import Wide.FinOn
import HandS.ForMost
import HandS.Wide
import HandS.IsInst
import HandS.NoneIn
import HandS.Small
import HandS.DictComp
import HandS.Evl
import PySem.Challenge.RW_retrynest_k34_whole_numbers_of_unsplitta
set_option Elab.async false
set_option linter.all false
set_option maxRecDepth 100000
set_option maxHeartbeats 4000000
namespace Rn
open PySem PySem.Spec PyProof.Rows L2

/-! ## heaps -/
theorem same_new {H : Hp} {p : Addr} {o : HO} (h : H p = none) : Same H (upd H p o) := fun b x e => by
  rw [upd_ne (ne_of_none e h)]
  exact e
theorem same_keep {H H' : Hp} {p : Addr} {o : HO} (e : Same H H') (h : H p = none) : Same H (upd H' p o) := fun b x q => by
  rw [upd_ne (ne_of_none q h)]
  exact e b x q
theorem sql {K : PySem.W.Frag} {H : Hp} {p : Addr} {xs : List V} (h : H p = some (.lst xs)) : SqL K H p xs := .inl (.inl h)
theorem sqt {K : PySem.W.Frag} {H : Hp} {p : Addr} {xs : List V} (h : H p = some (.tup xs)) : SqT K H p xs := .inl (.inl h)
/-- the source's two objects hidden -/
def hid (a d : Addr) (H : Hp) : Hp := fun b => if b = a ∨ b = d then none else H b
theorem hid_get {a d : Addr} {H : Hp} {b : Addr} {o : HO} (h : hid a d H b = some o) : H b = some o ∧ b ≠ a ∧ b ≠ d := by
  unfold hid at h
  by_cases e : b = a ∨ b = d
  · rw [if_pos e] at h
    cases h
  · rw [if_neg e] at h
    exact ⟨h, fun z => e (.inl z), fun z => e (.inr z)⟩
theorem hid_at {a d : Addr} {H : Hp} {b : Addr} {o : HO} (h : H b = some o) (ha : b ≠ a) (hd : b ≠ d) : hid a d H b = some o := by
  unfold hid
  rw [if_neg (fun z => z.elim ha hd)]
  exact h
theorem hid_none {a d : Addr} {H : Hp} {b : Addr} (h : H b = none) : hid a d H b = none := by
  unfold hid
  split
  · rfl
  · exact h
theorem hid_same {a d : Addr} {H H' : Hp} (e : Same H H') : Same (hid a d H) (hid a d H') := fun b o h => by
  obtain ⟨h1, h2, h3⟩ := hid_get h
  exact hid_at (e _ _ h1) h2 h3
theorem hid_src1 {a d : Addr} {H : Hp} {o : HO} : hid a d (upd H a o) = hid a d H := by
  funext b
  unfold hid
  by_cases e : b = a ∨ b = d
  · rw [if_pos e, if_pos e]
  · rw [if_neg e, if_neg e, upd_ne fun z => e (.inl z)]
theorem hid_src2 {a d : Addr} {H : Hp} {o : HO} : hid a d (upd H d o) = hid a d H := by
  funext b
  unfold hid
  by_cases e : b = a ∨ b = d
  · rw [if_pos e, if_pos e]
  · rw [if_neg e, if_neg e, upd_ne fun z => e (.inr z)]
theorem hid_oth {a d : Addr} {H : Hp} {p : Addr} {o : HO} (ha : p ≠ a) (hd : p ≠ d) : hid a d (upd H p o) = upd (hid a d H) p o := by
  funext b
  by_cases e : b = p
  · rw [e, upd_same]
    exact hid_at upd_same ha hd
  · rw [upd_ne e]
    unfold hid
    rw [upd_ne e]

/-! ## the source of draws: a list at a, its digits at d; at most n draws were mixed -/
def Src (H : Hp) (a d : Addr) (n : Int) : Prop := ∃ (cur mix cnt : Int) (ds : List Int), H a = some (.lst [.ref d, .int cur, .int mix, .int cnt]) ∧ H d = some (.lst (ds.map V.int)) ∧
  0 ≤ mix ∧ mix < 2305843009213693951 ∧ 0 ≤ cnt ∧ cnt ≤ n
theorem Src.ne {H : Hp} {a d : Addr} {n : Int} (s : Src H a d n) : a ≠ d := by
  obtain ⟨cur, mix, cnt, ds, h1, h2, _⟩ := s
  intro e
  rw [e] at h1
  rw [h1] at h2
  cases ds with
  | nil => cases h2
  | cons x r =>
    have z := Option.some.inj h2
    injection z with z
    rw [List.map_cons] at z
    injection z with z1 z2
    cases z1
theorem Src.lst1 {H : Hp} {a d : Addr} {n : Int} (s : Src H a d n) : ∃ o, H a = some o := let ⟨_, _, _, _, h, _⟩ := s; ⟨_, h⟩
theorem Src.lst2 {H : Hp} {a d : Addr} {n : Int} (s : Src H a d n) : ∃ o, H d = some o := let ⟨_, _, _, _, _, h, _⟩ := s; ⟨_, h⟩
theorem Src.same {H H' : Hp} {a d : Addr} {n : Int} (s : Src H a d n) (e : Same H H') : Src H' a d n := by
  obtain ⟨cur, mix, cnt, ds, h1, h2, h3⟩ := s
  exact ⟨cur, mix, cnt, ds, e _ _ h1, e _ _ h2, h3⟩
theorem Src.keep {H : Hp} {a d p : Addr} {o : HO} {n : Int} (s : Src H a d n) (ha : p ≠ a) (hd : p ≠ d) : Src (upd H p o) a d n := by
  obtain ⟨cur, mix, cnt, ds, h1, h2, h3⟩ := s
  exact ⟨cur, mix, cnt, ds, by rw [upd_ne ha.symm]; exact h1, by rw [upd_ne hd.symm]; exact h2, h3⟩
theorem Src.mono {H : Hp} {a d : Addr} {n m : Int} (s : Src H a d n) (h : n ≤ m) : Src H a d m := by
  obtain ⟨cur, mix, cnt, ds, h1, h2, h3, h4, h5, h6⟩ := s
  exact ⟨cur, mix, cnt, ds, h1, h2, h3, h4, h5, Int.le_trans h6 h⟩
theorem Src.new1 {H : Hp} {a d p : Addr} {n : Int} (s : Src H a d n) (h : H p = none) : p ≠ a ∧ p ≠ d := by
  obtain ⟨o, h1⟩ := s.lst1
  obtain ⟨u, h2⟩ := s.lst2
  exact ⟨(ne_of_none h1 h).symm, (ne_of_none h2 h).symm⟩

/-- what a call that draws at most c times does to the heap: all but the source stays, the source is a source -/
structure Adv (a d : Addr) (c : Int) (H H' : Hp) : Prop where
  same : Same (hid a d H) (hid a d H')
  src : ∀ n, Src H a d n → Src H' a d (n + c)
theorem Adv.refl {a d : Addr} {H : Hp} : Adv a d 0 H H := ⟨Same.refl _, fun n s => s.mono (by omega)⟩
theorem Adv.trans {a d : Addr} {c c' e : Int} {H H1 H2 : Hp} (x : Adv a d c H H1) (y : Adv a d c' H1 H2) (h : c + c' ≤ e) : Adv a d e H H2 :=
  ⟨x.same.trans y.same, fun n s => (y.src _ (x.src _ s)).mono (by omega)⟩
theorem Adv.mono {a d : Addr} {c e : Int} {H H1 : Hp} (x : Adv a d c H H1) (h : c ≤ e) : Adv a d e H H1 := ⟨x.same, fun n s => (x.src _ s).mono (by omega)⟩
theorem Adv.of {a d : Addr} {H H' : Hp} (e : Same H H') : Adv a d 0 H H' := ⟨hid_same e, fun n s => (s.same e).mono (by omega)⟩
/-- .. where a new object of the way has changed -/
theorem Adv.mut {a d : Addr} {c : Int} {H H' : Hp} {p : Addr} {o : HO} {n : Int} (x : Adv a d c H H') (s : Src H a d n) (h : H p = none) : Adv a d c H (upd H' p o) := by
  obtain ⟨h1, h2⟩ := s.new1 h
  refine ⟨?_, fun m t => (x.src m t).keep h1 h2⟩
  rw [hid_oth h1 h2]
  exact same_keep x.same (hid_none h)
/-- free behind is free ahead -/
theorem Adv.free {a d p : Addr} {c n : Int} {H H' : Hp} (x : Adv a d c H H') (s : Src H a d n) (h : H' p = none) : H p = none := by
  have s' := x.src n s
  obtain ⟨h1, h2⟩ := s'.new1 h
  cases q : H p with
  | none => rfl
  | some o =>
    have e := (hid_get (x.same p o (hid_at q h1 h2))).1
    rw [h] at e
    cases e
theorem Adv.made {a d : Addr} {c cur mix cnt cur' cnt' : Int} {H H' : Hp} {ds' : List Int} (e : Same (hid a d H) (hid a d H')) (h : H a = some (.lst [.ref d, .int cur, .int mix, .int cnt]))
    (h' : H' a = some (.lst [.ref d, .int cur', .int mix, .int cnt'])) (hd' : H' d = some (.lst (ds'.map V.int))) (h0 : cnt ≤ cnt') (h1 : cnt' ≤ cnt + c) : Adv a d c H H' := by
  refine ⟨e, fun n s => ?_⟩
  obtain ⟨cu, mi, cn, ds, a1, a2, a3, a4, a5, a6⟩ := s
  rw [h] at a1
  cases a1
  exact ⟨cur', mix, cnt', ds', h', hd', a3, a4, by omega, by omega⟩
theorem small64 {x b : Int} (h0 : 0 ≤ x) (h1 : x < b) (hb : b ≤ 18446744073709551616) : x.natAbs < 2 ^ 64 := by omega

/-! ## ints in lists -/
theorem map_get {ns : List Int} {i : Nat} {x : Int} (h : ns[i]? = some x) : (ns.map V.int)[i]? = some (.int x) := by
  rw [List.getElem?_map, h]
  rfl
theorem at_int {ns : List Int} {i : Int} (h0 : 0 ≤ i) (h : i < ns.length) : ∃ x, x ∈ ns ∧ ns[i.toNat]? = some x ∧ atI (ns.map V.int) i = some (.int x) := by
  obtain ⟨j, rfl⟩ : ∃ j : Nat, i = (j : Int) := ⟨i.toNat, by omega⟩
  have hi : j < ns.length := by omega
  exact ⟨ns[j], List.getElem_mem hi, List.getElem?_eq_getElem hi, atI_nat (map_get (List.getElem?_eq_getElem hi))⟩
theorem at_val {xs : List V} {i : Int} (h0 : 0 ≤ i) (h : i < xs.length) : ∃ x, x ∈ xs ∧ xs[i.toNat]? = some x ∧ atI xs i = some x := by
  obtain ⟨j, rfl⟩ : ∃ j : Nat, i = (j : Int) := ⟨i.toNat, by omega⟩
  have hi : j < xs.length := by omega
  exact ⟨xs[j], List.getElem_mem hi, List.getElem?_eq_getElem hi, atI_nat (List.getElem?_eq_getElem hi)⟩
theorem size_le {n : Nat} (h : n ≤ 100000) : n ≤ sizeLine := Nat.le_trans h (by decide)
theorem size_lt {n : Nat} (h : n < 100000) : n < sizeLine := Nat.lt_of_lt_of_le h (by decide)
mutual
theorem eqv_refl' : ∀ d : PyData, d.canLay0 = true → PyData.eqv d d = true
  | .none, _ => rfl
  | .bool b, _ => by simp [PyData.eqv]
  | .int i, _ => by simp [PyData.eqv]
  | .str x, _ => by simp [PyData.eqv]
  | .list xs, h => by
    simp only [PyData.eqv]
    exact eqvAll_refl' xs (by simpa [PyData.canLay0] using h)
  | .tuple xs, h => by
    simp only [PyData.eqv]
    exact eqvAll_refl' xs (by simpa [PyData.canLay0] using h)
  | .dict _, h => by simp [PyData.canLay0] at h
theorem eqvAll_refl' : ∀ ds : List PyData, PyData.canLayAll0 ds = true → PyData.eqvAll ds ds = true
  | [], _ => by simp [PyData.eqvAll]
  | d :: ds, h => by
    have h' : d.canLay0 = true ∧ PyData.canLayAll0 ds = true := by simpa [PyData.canLayAll0] using h
    simp only [PyData.eqvAll, Bool.and_eq_true]
    exact ⟨eqv_refl' d h'.1, eqvAll_refl' ds h'.2⟩
end
/-- a list of ints as data -/
def dInts (ns : List Int) : PyData := .list (ns.map .int)
theorem eqvAll_ints : ∀ ns ms : List Int, PyData.eqvAll (ns.map .int) (ms.map .int) = decide (ns = ms)
  | [], [] => by simp [PyData.eqvAll]
  | [], _ :: _ => by simp [PyData.eqvAll]
  | _ :: _, [] => by simp [PyData.eqvAll]
  | n :: ns, m :: ms => by
    have ih := eqvAll_ints ns ms
    simp only [List.map_cons, PyData.eqvAll, PyData.eqv, ih]
    by_cases h1 : n = m <;> by_cases h2 : ns = ms <;> simp [h1, h2]
theorem eqv_ints (ns ms : List Int) : PyData.eqv (dInts ns) (dInts ms) = decide (ns = ms) := by
  unfold dInts
  simp only [PyData.eqv]
  exact eqvAll_ints ns ms
theorem canLay_ints : ∀ ns : List Int, PyData.canLayAll0 (ns.map .int) = true
  | [] => by simp [PyData.canLayAll0]
  | n :: ns => by simp [PyData.canLayAll0, PyData.canLay0, canLay_ints ns]
theorem depth_ints : ∀ ns : List Int, PyData.depthAll (ns.map .int) ≤ 1
  | [] => by simp [PyData.depthAll]
  | n :: ns => by
    have := depth_ints ns
    simp only [List.map_cons, PyData.depthAll, PyData.depth]
    omega
theorem shaped_ints (ns : List Int) : SeqAt.shaped (dInts ns) = true := by
  have h := depth_ints ns
  unfold SeqAt.shaped
  rw [Bool.and_eq_true]
  refine ⟨?_, decide_eq_true ?_⟩
  · unfold dInts
    simp only [PyData.canLay0, canLay_ints]
  · unfold dInts
    simp only [PyData.depth]
    omega
theorem dp_all {K : PySem.W.Frag} {H : Hp} : ∀ ns : List Int, DpAll K H (ns.map V.int) (ns.map .int)
  | [] => .nil
  | n :: ns => .cons (.int n) (dp_all ns)
theorem dp_ints {K : PySem.W.Frag} {H : Hp} {p : Addr} {ns : List Int} (h : SqL K H p (ns.map V.int)) : Dp K H (.ref p) (dInts ns) := .lst h (dp_all ns)
theorem dp_nil {K : PySem.W.Frag} {H : Hp} {p : Addr} (h : SqL K H p []) : Dp K H (.ref p) (dInts []) := .lst h .nil

/-! ## loops -/
/-- for i, x in enumerate(xs), xs left as it is -/
theorem for_enum {K : PySem.W.Frag} {a : Addr} {xs : List V} {g : TG} {tb : TS} {D : Ends} {σ : L2.St} {H : Hp} (Pv : Nat → L2.St → Hp → Prop) (h0 : Pv 0 σ H)
    (hl : ∀ i σ H, i ≤ xs.length → Pv i σ H → SqL K H a xs)
    (hs : ∀ i x σ H T, xs[i]? = some x → Pv i σ H → H T = none → g (.ref T) σ (upd H T (.tup [.int (i : Nat), x])) fun σ2 H2 => tb { D with nx := Pv (i + 1), ct := Pv (i + 1), bk := D.nx } σ2 H2)
    (hd : ∀ σ H, Pv xs.length σ H → D.nx σ H) :
    ∃ W : Nat → Nat → L2.St → Hp → Prop, (∃ m, W 0 m σ H) ∧ ∀ i m σ H, W i m σ H →
      ((Ite K a).stop i H ∧ D.nx σ H) ∨ ((Ite K a).go i H ∧ ∃ N : L2.St → Hp → Prop, (∀ σ' H', N σ' H' → ∃ m', m' < m ∧ W (i + 1) m' σ' H') ∧
        ∀ x H', (Ite K a).yld i H x H' → g x σ H' fun σ2 H2 => tb { D with nx := N, ct := N, bk := D.nx } σ2 H2) := by
  refine ⟨fun i m σ' H' => m + i = xs.length ∧ Pv i σ' H', ⟨xs.length, rfl, h0⟩, fun i m σ' H' hW => ?_⟩
  obtain ⟨em, hp⟩ := hW
  have hq := hl i σ' H' (by omega) hp
  by_cases hi : i < xs.length
  · refine .inr ⟨⟨xs, xs[i], hq, List.getElem?_eq_getElem hi⟩, Pv (i + 1), fun σ2 H2 h2 => ⟨m - 1, by omega, by omega, h2⟩, fun x H2 hy => ?_⟩
    obtain ⟨T, y, rfl, nT, rfl, hx⟩ := hy
    exact hs i y σ' H' T (hx xs hq) hp nT
  · have e : i = xs.length := by omega
    subst e
    exact .inl ⟨⟨xs, hq, Nat.le_refl _⟩, hd σ' H' hp⟩

/-! ## kinds -/
section
variable {K : PySem.W.Frag} {H : Hp} {p : Addr} {xs : List V} {Q : VK}
theorem isi_tt (h : H p = some (.tup xs)) (q : Q (.bl true) H) : rIsi K [.ref p, .ty "tuple"] H Q := ⟨_, _, _, _, _, rfl, .ty "tuple", .base (.tup h), kit_ty (by decide +kernel), q⟩
theorem isi_lt (h : H p = some (.lst xs)) (q : Q (.bl false) H) : rIsi K [.ref p, .ty "tuple"] H Q := ⟨_, _, _, _, _, rfl, .ty "tuple", .base (.lst h), kit_ty (by decide +kernel), q⟩
theorem isi_ll (h : H p = some (.lst xs)) (q : Q (.bl true) H) : rIsi K [.ref p, .ty "list"] H Q := ⟨_, _, _, _, _, rfl, .ty "list", .base (.lst h), kit_ty (by decide +kernel), q⟩
theorem isi_tl (h : H p = some (.tup xs)) (q : Q (.bl false) H) : rIsi K [.ref p, .ty "list"] H Q := ⟨_, _, _, _, _, rfl, .ty "list", .base (.tup h), kit_ty (by decide +kernel), q⟩
end

theorem units1 {n c : Nat} (h : n + 64 < c) : n + 1 < c := by omega
theorem yes_thn {σ : L2.St} {H : Hp} {A B : Hp → Prop} (h : A H) : tYes σ H (fun b H3 => if b = true then A H3 else B H3) := by
  change (if true = true then A H else B H)
  exact (if_pos rfl).mpr h
/-! ## policies and layers -/
/-- the inner one, then each wait of the outer one and the inner one again -/
def nestL {α : Type} (xs ys : List α) : List α := xs ++ ys.flatMap fun y => y :: xs
theorem nestL_map {α β : Type} (f : α → β) (xs ys : List α) : (nestL xs ys).map f = nestL (xs.map f) (ys.map f) := by
  unfold nestL
  rw [List.map_append, List.map_flatMap, List.flatMap_map]
  congr 1
theorem flatMap_len {α β : Type} (f : α → List β) (n : Nat) (h : ∀ x, (f x).length = n) : ∀ l : List α, (l.flatMap f).length = l.length * n
  | [] => by simp
  | x :: l => by
    rw [List.flatMap_cons, List.length_append, h x, flatMap_len f n h l, List.length_cons, Nat.succ_mul, Nat.add_comm]
theorem nestL_len {α : Type} (xs ys : List α) : (nestL xs ys).length + 1 = (xs.length + 1) * (ys.length + 1) := by
  unfold nestL
  rw [List.length_append, flatMap_len _ (xs.length + 1) (fun _ => rfl)]
  generalize xs.length = a
  generalize ys.length = b
  have e1 : (a + 1) * (b + 1) = a * b + a + (b + 1) := by rw [Nat.add_mul, Nat.mul_add, Nat.mul_one, Nat.one_mul]
  have e2 : b * (a + 1) = a * b + b := by rw [Nat.mul_add, Nat.mul_one, Nat.mul_comm]
  omega
theorem nestL_nil {α : Type} (xs : List α) : nestL xs [] = xs := by
  unfold nestL
  simp
theorem nil_nestL {α : Type} (ys : List α) : nestL [] ys = ys := by
  unfold nestL
  simp
theorem nestL_mem {α : Type} {xs ys : List α} {z : α} (h : z ∈ nestL xs ys) : z ∈ xs ∨ z ∈ ys := by
  unfold nestL at h
  rw [List.mem_append, List.mem_flatMap] at h
  rcases h with h | ⟨y, hy, h⟩
  · exact .inl h
  · rcases List.mem_cons.mp h with e | h
    · exact .inr (e ▸ hy)
    · exact .inl h
inductive Lay where
  | pol (ns : List Int)
  | con (w n : Int)
def Lay.cnt : Lay → Int
  | .pol ns => (ns.length : Int) + 1
  | .con _ n => n
def Lay.waits : Lay → List Int
  | .pol ns => ns
  | .con w n => List.replicate (n - 1).toNat w
def Lay.ok : Lay → Bool
  | .pol ns => ns.all fun x => decide (0 ≤ x)
  | .con w n => decide (0 ≤ w) && decide (1 ≤ n)
theorem Lay.ok_con (w n : Int) : (Lay.con w n).ok = (decide (0 ≤ w) && decide (1 ≤ n)) := rfl
theorem Lay.ok_pol (ns : List Int) : (Lay.pol ns).ok = ns.all fun x => decide (0 ≤ x) := rfl
def LayAt (H : Hp) (v : V) : Lay → Prop
  | .pol ns => ∃ p, v = .ref p ∧ H p = some (.lst (ns.map V.int))
  | .con w n => ∃ p, v = .ref p ∧ H p = some (.tup [.int w, .int n])
theorem LayAt.same {H H' : Hp} {v : V} {L : Lay} (h : LayAt H v L) (e : Same H H') : LayAt H' v L := by
  cases L with
  | pol ns => obtain ⟨p, h1, h2⟩ := h; exact ⟨p, h1, e _ _ h2⟩
  | con w n => obtain ⟨p, h1, h2⟩ := h; exact ⟨p, h1, e _ _ h2⟩
theorem LayAt.ref {H : Hp} {v : V} {L : Lay} (h : LayAt H v L) : ∃ p, v = .ref p := by
  cases L with
  | pol ns => obtain ⟨p, h1, _⟩ := h; exact ⟨p, h1⟩
  | con w n => obtain ⟨p, h1, _⟩ := h; exact ⟨p, h1⟩
def NestAt (H : Hp) (q : Addr) (Ls : List Lay) : Prop := ∃ vs, H q = some (.lst vs) ∧ vs.length = Ls.length ∧ ∀ (i : Nat) v L, vs[i]? = some v → Ls[i]? = some L → LayAt H v L
theorem NestAt.same {H H' : Hp} {q : Addr} {Ls : List Lay} (h : NestAt H q Ls) (e : Same H H') : NestAt H' q Ls := by
  obtain ⟨vs, h1, h2, h3⟩ := h
  exact ⟨vs, e _ _ h1, h2, fun i v L a b => (h3 i v L a b).same e⟩
theorem LayAt.con_pos {L : Lay} (h : L.ok = true) : 1 ≤ L.cnt := by
  cases L with
  | pol ns => show (1 : Int) ≤ (ns.length : Int) + 1; omega
  | con w n =>
    unfold Lay.ok at h
    rw [Bool.and_eq_true] at h
    exact of_decide_eq_true h.2
def attOf (Ls : List Lay) : Int := Ls.foldl (fun t L => t * L.cnt) 1
def flatL (Ls : List Lay) : List Int := Ls.foldl (fun acc L => if L.cnt > 1 then nestL acc L.waits else acc) []
theorem nest_of {H : Hp} {q : Addr} {vs : List V} {Ls : List Lay} (h : H q = some (.lst vs)) (p : Paired (LayAt H) vs Ls) : NestAt H q Ls := by
  refine ⟨vs, h, Paired.length p, ?_⟩
  clear h
  induction p with
  | nil =>
    intro i v L h
    cases h
  | cons r t ih =>
    intro i v L h1 h2
    cases i with
    | zero =>
      cases h1
      cases h2
      exact r
    | succ i => exact ih i v L h1 h2
theorem flatL_eq : ∀ (Ls : List Lay) (acc : List Int), (∀ L ∈ Ls, L.ok = true) → Ls.foldl (fun acc L => if L.cnt > 1 then nestL acc L.waits else acc) acc = Ls.foldl (fun acc L => nestL acc L.waits) acc
  | [], _, _ => rfl
  | L :: Ls, acc, h => by
    have h1 := LayAt.con_pos (h L List.mem_cons_self)
    have e : (if L.cnt > 1 then nestL acc L.waits else acc) = nestL acc L.waits := by
      split
      · rfl
      · have hw : L.waits = [] := by
          cases L with
          | pol ns =>
            have : (ns.length : Int) + 1 = (Lay.pol ns).cnt := rfl
            exact List.length_eq_zero_iff.mp (by show ns.length = 0; omega)
          | con w n =>
            have : n = (Lay.con w n).cnt := rfl
            show List.replicate (n - 1).toNat w = []
            rw [show (n - 1).toNat = 0 by omega]
            rfl
        rw [hw, nestL_nil]
    rw [List.foldl_cons, List.foldl_cons, e]
    exact flatL_eq Ls _ fun M hM => h M (List.mem_cons_of_mem _ hM)
theorem flatL_fold {Ls : List Lay} (h : ∀ L ∈ Ls, L.ok = true) : flatL Ls = Ls.foldl (fun acc L => nestL acc L.waits) [] := flatL_eq Ls [] h
theorem nestL_assoc {α : Type} (xs ys zs : List α) : nestL (nestL xs ys) zs = nestL xs (nestL ys zs) := by
  unfold nestL
  rw [List.flatMap_append, List.append_assoc]
  congr 1
  congr 1
  induction zs with
  | nil => rfl
  | cons z zs ih =>
    simp only [List.flatMap_cons, List.flatMap_append, List.cons_append, List.append_assoc] at ih ⊢
    rw [ih]
theorem pol_ok {ns : List Int} (h : ∀ x ∈ ns, 0 ≤ x ∧ x < 1000000000000) : (Lay.pol ns).ok = true := by
  rw [Lay.ok_pol, List.all_eq_true]
  exact fun x hx => decide_eq_true (h x hx).1
theorem ne_no {ns ms : List Int} {A B : Prop} (h : ns = ms) (b : B) : if (!PyData.eqv (dInts ns) (dInts ms)) = true then A else B := by
  rw [eqv_ints, decide_eq_true h]
  exact iteF b

/-! ## rules of the written part in a comprehension's block -/
section
variable {X : Cx} {K : PySem.W.Frag}
theorem ix_listK (h : X.K = K) : IxR X (rIxL K) := by subst h; exact ix_list
theorem ix_tupK (h : X.K = K) : IxR X (rIxT K) := by subst h; exact ix_tup
theorem sl_listK (h : X.K = K) : SlR X (rSlL K) := by subst h; exact sl_list
theorem op_eqDK (h : X.K = K) (hu : X.A.units + 64 < cLine) : OpR X (compareOp .Eq) (rEqD K) := by subst h; exact op_eqD hu
theorem op_neDK (h : X.K = K) (hu : X.A.units + 64 < cLine) : OpR X (compareOp .NotEq) (rNeD K) := by subst h; exact op_neD hu
theorem op_in_seqK (h : X.K = K) : OpR X (compareOp .In) (rIn K false) := by subst h; exact op_in_seq
theorem op_notIn_seqK (h : X.K = K) : OpR X (compareOp .NotIn) (rIn K true) := by subst h; exact op_notIn_seq
theorem call_isiK1 (h : X.K = K) : CallR X (.builtin "isinstance") (rIsi K) := by subst h; exact call_isi
def rLenK (K : PySem.W.Frag) : List V → Hp → VK → Prop := fun xs H Q => ∃ p ys, xs = [.ref p] ∧ (SqL K H p ys ∨ SqT K H p ys) ∧ Q (.int (ys.length : Int)) H
theorem call_len_seqK (h : X.K = K) : CallR X (.builtin "len") (rLenK K) := by subst h; exact call_len_seq
def rListK (K : PySem.W.Frag) : List V → Hp → VK → Prop := fun xs H Q => ∃ p ys, xs = [.ref p] ∧ (SqL K H p ys ∨ SqT K H p ys) ∧ ∀ l, H l = none → Q (.ref l) (upd H l (.lst ys))
theorem call_list_ofK (h : X.K = K) : CallR X (.type "list") (rListK K) := by subst h; exact call_list_of
end
theorem refs_ints {ps : List Addr} {ws : List Int} (h : ps.map V.ref = ws.map V.int) : ps = [] := by
  cases ps with
  | nil => rfl
  | cons p ps =>
    cases ws with
    | nil => cases h
    | cons w ws =>
      injection h with h1 h2
      cases h1
theorem three {α : Type} {l : List α} (h : l.length = 3) : ∃ x y z, l = [x, y, z] := by
  match l, h with
  | [x, y, z], _ => exact ⟨x, y, z, rfl⟩
theorem ixN_at {n : Nat} {i : Int} (h0 : 0 ≤ i) (h1 : i < n) : ixN n i = some i.toNat := by
  unfold ixN
  rw [if_pos h0, if_pos h1]
theorem eq_yes {ns ms : List Int} (h : ns = ms) : PyData.eqv (dInts ns) (dInts ms) = true := by rw [eqv_ints, decide_eq_true h]
theorem nestL_cons {α : Type} (ns : List α) (m : α) (ms : List α) : nestL ns (m :: ms) = ns ++ m :: nestL ns ms := by
  unfold nestL
  rw [List.flatMap_cons, List.cons_append]
theorem nestL_get {α : Type} (ns : List α) : ∀ (ms : List α) (j : Nat), j < (nestL ns ms).length → (nestL ns ms)[j]? = if (j + 1) % (ns.length + 1) = 0 then ms[(j + 1) / (ns.length + 1) - 1]? else ns[(j + 1) % (ns.length + 1) - 1]?
  | [], j, h => by
    rw [nestL_nil] at h ⊢
    rw [Nat.mod_eq_of_lt (by omega), if_neg (by omega)]
    rfl
  | m :: ms, j, h => by
    rw [nestL_cons] at h ⊢
    by_cases h1 : j < ns.length
    · rw [List.getElem?_append_left h1, Nat.mod_eq_of_lt (by omega), if_neg (by omega)]
      rfl
    · by_cases h2 : j = ns.length
      · subst h2
        rw [List.getElem?_append_right (Nat.le_refl _), Nat.sub_self, Nat.mod_self, if_pos rfl, Nat.div_self (by omega)]
        rfl
      · obtain ⟨t, rfl⟩ : ∃ t, j = ns.length + 1 + t := ⟨j - (ns.length + 1), by omega⟩
        rw [List.getElem?_append_right (by omega), show ns.length + 1 + t - ns.length = t + 1 by omega, List.getElem?_cons_succ]
        rw [List.length_append, List.length_cons] at h
        rw [nestL_get ns ms t (by omega), show ns.length + 1 + t + 1 = (t + 1) + (ns.length + 1) by omega, Nat.add_mod_right, Nat.add_div_right _ (by omega)]
        by_cases h3 : (t + 1) % (ns.length + 1) = 0
        · rw [if_pos h3, if_pos h3, Nat.succ_sub_one]
          have : 1 ≤ (t + 1) / (ns.length + 1) := by
            have := Nat.div_add_mod (t + 1) (ns.length + 1)
            rw [h3] at this
            rcases Nat.eq_zero_or_pos ((t + 1) / (ns.length + 1)) with z | z
            · rw [z] at this
              omega
            · exact z
          obtain ⟨u, hu⟩ : ∃ u, (t + 1) / (ns.length + 1) = u + 1 := ⟨(t + 1) / (ns.length + 1) - 1, by omega⟩
          rw [hu]
          rfl
        · rw [if_neg h3, if_neg h3]
theorem foldl_nestL : ∀ (Ls : List Lay) (xs acc : List Int), Ls.foldl (fun acc L => nestL acc L.waits) (nestL xs acc) = nestL xs (Ls.foldl (fun acc L => nestL acc L.waits) acc)
  | [], _, _ => rfl
  | L :: Ls, xs, acc => by
    rw [List.foldl_cons, List.foldl_cons, nestL_assoc]
    exact foldl_nestL Ls xs (nestL acc L.waits)
theorem flatL_cons {L : Lay} {Ls : List Lay} (h : ∀ M ∈ L :: Ls, M.ok = true) : flatL (L :: Ls) = nestL L.waits (flatL Ls) := by
  rw [flatL_fold h, flatL_fold fun M hM => h M (List.mem_cons_of_mem _ hM), List.foldl_cons, nil_nestL]
  have := foldl_nestL Ls L.waits []
  rw [nestL_nil] at this
  exact this
/-- a nesting whose layers' objects are newer than H0 and none of them is the nesting's own list -/
def NestV (H0 G : Hp) (p : Addr) (vs : List V) (Ls : List Lay) : Prop := G p = some (.lst vs) ∧ vs.length = Ls.length ∧ (∀ (i : Nat) v L, vs[i]? = some v → Ls[i]? = some L → LayAt G v L) ∧ ∀ x, V.ref x ∈ vs → x ≠ p ∧ H0 x = none
theorem NestV.nest {H0 G : Hp} {p : Addr} {vs : List V} {Ls : List Lay} (h : NestV H0 G p vs Ls) : NestAt G p Ls := ⟨vs, h.1, h.2.1, h.2.2.1⟩
theorem NestV.same {H0 G G' : Hp} {p : Addr} {vs : List V} {Ls : List Lay} (h : NestV H0 G p vs Ls) (e : Same G G') : NestV H0 G' p vs Ls :=
  ⟨e _ _ h.1, h.2.1, fun i v L a b => (h.2.2.1 i v L a b).same e, h.2.2.2⟩
theorem NestV.nil {H0 G : Hp} {p : Addr} (h : G p = some (.lst [])) : NestV H0 G p [] [] := ⟨h, rfl, (fun _ _ _ z => nomatch z), (fun _ z => nomatch z)⟩
theorem LayAt.keep {G : Hp} {p : Addr} {o : HO} {v : V} {L : Lay} (h : LayAt G v L) (ne : ∀ x, v = V.ref x → x ≠ p) : LayAt (upd G p o) v L := by
  cases L with
  | pol ns => obtain ⟨x, e, z⟩ := h; exact ⟨x, e, by rw [upd_ne (ne x e)]; exact z⟩
  | con w n => obtain ⟨x, e, z⟩ := h; exact ⟨x, e, by rw [upd_ne (ne x e)]; exact z⟩
theorem NestV.push {H0 G : Hp} {p x : Addr} {vs : List V} {Ls : List Lay} {L : Lay} (h : NestV H0 G p vs Ls) (hx : LayAt G (.ref x) L) (ne : x ≠ p) (fr : H0 x = none) :
    NestV H0 (upd G p (.lst (vs ++ [.ref x]))) p (vs ++ [.ref x]) (Ls ++ [L]) := by
  obtain ⟨h1, h2, h3, h4⟩ := h
  refine ⟨upd_same, by rw [List.length_append, List.length_append, h2]; rfl, fun i v M a b => ?_, fun y hy => ?_⟩
  · by_cases hi : i < vs.length
    · rw [List.getElem?_append_left hi] at a
      rw [List.getElem?_append_left (by omega)] at b
      exact (h3 i v M a b).keep fun y e => (h4 y (e ▸ List.mem_of_getElem? a)).1
    · rw [List.getElem?_append_right (by omega)] at a
      rw [List.getElem?_append_right (by omega), ← h2] at b
      generalize i - vs.length = k at *
      cases k with
      | zero =>
        cases a
        cases b
        exact hx.keep fun y e => by cases e; exact ne
      | succ k => cases a
  · rcases List.mem_append.mp hy with z | z
    · exact h4 y z
    · have := List.mem_singleton.mp z
      cases this
      exact ⟨ne, fr⟩
/-- one of its lists of ints is changed in place, its length kept -/
theorem NestV.turn {H0 G : Hp} {p x : Addr} {vs : List V} {Ls : List Lay} {ws us : List Int} (h : NestV H0 G p vs Ls) (hx : G x = some (.lst (ws.map V.int))) (ne : x ≠ p) (hl : us.length = ws.length) :
    ∃ Ms : List Lay, NestV H0 (upd G x (.lst (us.map V.int))) p vs Ms ∧ Ms.map Lay.cnt = Ls.map Lay.cnt ∧ ∀ M ∈ Ms, M ∈ Ls ∨ (M = .pol us ∧ Lay.pol ws ∈ Ls) := by
  obtain ⟨h1, h2, h3, h4⟩ := h
  suffices key : ∀ (vs : List V) (Ls : List Lay), vs.length = Ls.length → (∀ (i : Nat) v L, vs[i]? = some v → Ls[i]? = some L → LayAt G v L) →
      ∃ Ms : List Lay, vs.length = Ms.length ∧ (∀ (i : Nat) v L, vs[i]? = some v → Ms[i]? = some L → LayAt (upd G x (.lst (us.map V.int))) v L) ∧ Ms.map Lay.cnt = Ls.map Lay.cnt ∧ ∀ M ∈ Ms, M ∈ Ls ∨ (M = .pol us ∧ Lay.pol ws ∈ Ls) by
    obtain ⟨Ms, k1, k2, k3, k4⟩ := key vs Ls h2 h3
    exact ⟨Ms, ⟨by rw [upd_ne ne.symm]; exact h1, k1, k2, h4⟩, k3, k4⟩
  clear h1 h2 h3 h4
  intro vs
  induction vs with
  | nil =>
    intro Ls hl _
    have : Ls = [] := List.length_eq_zero_iff.mp hl.symm
    subst this
    exact ⟨[], rfl, (fun _ _ _ z => nomatch z), rfl, (fun _ z => nomatch z)⟩
  | cons v vs ih =>
    intro Ls hlen hat
    cases Ls with
    | nil => cases hlen
    | cons L Ls =>
      obtain ⟨Ms, k1, k2, k3, k4⟩ := ih Ls (by simpa using hlen) fun i u M a b => hat (i + 1) u M a b
      have h0 := hat 0 v L rfl rfl
      by_cases e : v = V.ref x
      · subst e
        have hL : L = .pol ws := by
          cases L with
          | pol ns =>
            obtain ⟨y, e, z⟩ := h0
            cases e
            rw [hx] at z
            injection z with z
            injection z with z
            have : ∀ (as bs : List Int), as.map V.int = bs.map V.int → as = bs := by
              intro as
              induction as with
              | nil => intro bs q; cases bs with
                | nil => rfl
                | cons b bs => cases q
              | cons a as ih => intro bs q; cases bs with
                | nil => cases q
                | cons b bs =>
                  injection q with q1 q2
                  injection q1 with q1
                  rw [q1, ih bs q2]
            rw [this _ _ z]
          | con w n =>
            obtain ⟨y, e, z⟩ := h0
            cases e
            rw [hx] at z
            cases z
        refine ⟨.pol us :: Ms, by rw [List.length_cons, List.length_cons, k1], fun i u M a b => ?_, ?_, fun M hM => ?_⟩
        · cases i with
          | zero =>
            cases a
            cases b
            exact ⟨x, rfl, upd_same⟩
          | succ i => exact k2 i u M a b
        · rw [List.map_cons, List.map_cons, k3, hL]
          show ((us.length : Int) + 1) :: _ = ((ws.length : Int) + 1) :: _
          rw [hl]
        · rcases List.mem_cons.mp hM with z | z
          · exact .inr ⟨z, by rw [hL]; exact List.mem_cons_self⟩
          · rcases k4 M z with z | ⟨z1, z2⟩
            · exact .inl (List.mem_cons_of_mem _ z)
            · exact .inr ⟨z1, List.mem_cons_of_mem _ z2⟩
      · refine ⟨L :: Ms, by rw [List.length_cons, List.length_cons, k1], fun i u M a b => ?_, ?_, fun M hM => ?_⟩
        · cases i with
          | zero =>
            cases a
            cases b
            exact h0.keep fun y q z => e (by rw [q, z])
          | succ i => exact k2 i u M a b
        · rw [List.map_cons, List.map_cons, k3]
        · rcases List.mem_cons.mp hM with z | z
          · exact .inl (z ▸ List.mem_cons_self)
          · rcases k4 M z with z | ⟨z1, z2⟩
            · exact .inl (List.mem_cons_of_mem _ z)
            · exact .inr ⟨z1, List.mem_cons_of_mem _ z2⟩
theorem attOf_cnt : ∀ (Ls : List Lay) (t : Int), Ls.foldl (fun t L => t * L.cnt) t = (Ls.map Lay.cnt).foldl (fun t c => t * c) t
  | [], _ => rfl
  | L :: Ls, t => by
    rw [List.foldl_cons, List.map_cons, List.foldl_cons]
    exact attOf_cnt Ls _
theorem attOf_same {Ls Ms : List Lay} (h : Ms.map Lay.cnt = Ls.map Lay.cnt) : attOf Ms = attOf Ls := by
  unfold attOf
  rw [attOf_cnt, attOf_cnt, h]
/-- a layer that a law draws -/
def Lay.nice (L : Lay) : Prop := L.ok = true ∧ match L with
  | .pol ns => ns.length ≤ 60 ∧ ∀ x ∈ ns, 0 ≤ x ∧ x < 1000000000000
  | .con w n => w < 1000000000000 ∧ n < 1000000000000000000000
theorem Lay.nice_pol {ns : List Int} (h : ns.length ≤ 60) (hb : ∀ x ∈ ns, 0 ≤ x ∧ x < 1000000000000) : (Lay.pol ns).nice := ⟨pol_ok hb, h, hb⟩
theorem Lay.nice_con {w n : Int} (h0 : 0 ≤ w) (h1 : w < 1000000000000) (h2 : 1 ≤ n) (h3 : n < 1000000000000000000000) : (Lay.con w n).nice :=
  ⟨by rw [Lay.ok_con, decide_eq_true h0, decide_eq_true h2]; rfl, h1, h3⟩
theorem attOf_snoc (Ls : List Lay) (L : Lay) : attOf (Ls ++ [L]) = attOf Ls * L.cnt := by
  unfold attOf
  rw [List.foldl_append]
  rfl
theorem attOf_lt : ∀ n (Ls : List Lay), Ls.length = n → (∀ L ∈ Ls, L.ok = true ∧ L.cnt < 2 ^ 100) → 0 < attOf Ls ∧ (attOf Ls).natAbs < 2 ^ (100 * n + 1)
  | 0, Ls, e, _ => by
    have e' : Ls = [] := List.length_eq_zero_iff.mp e
    subst e'
    exact ⟨by decide, by decide⟩
  | n + 1, Ls, e, h => by
    have hne : Ls ≠ [] := fun z => by rw [z] at e; cases e
    obtain ⟨Ms, L, rfl⟩ : ∃ Ms L, Ls = Ms ++ [L] := ⟨_, _, (List.dropLast_concat_getLast hne).symm⟩
    rw [List.length_append] at e
    obtain ⟨i1, i2⟩ := attOf_lt n Ms (by simpa using e) fun M hM => h M (List.mem_append_left _ hM)
    obtain ⟨h1, h2⟩ := h L (List.mem_append_right _ List.mem_cons_self)
    have h3 := LayAt.con_pos h1
    rw [attOf_snoc]
    refine ⟨Int.mul_pos i1 (by omega), ?_⟩
    have z := wide_lt (i := attOf Ms) (j := L.cnt) (b := 100) i2 (by omega)
    rw [show 100 * (n + 1) + 1 = 100 * n + 1 + 100 by omega]
    exact z
theorem flatL_snoc (Ls : List Lay) (L : Lay) : flatL (Ls ++ [L]) = if L.cnt > 1 then nestL (flatL Ls) L.waits else flatL Ls := by
  unfold flatL
  rw [List.foldl_append]
  rfl
theorem waits_len {L : Lay} (h : L.ok = true) : (L.waits.length : Int) + 1 = L.cnt := by
  cases L with
  | pol ns => rfl
  | con w n =>
    have := LayAt.con_pos h
    have : 1 ≤ n := this
    show ((List.replicate (n - 1).toNat w).length : Int) + 1 = n
    rw [List.length_replicate]
    omega
theorem flatL_len : ∀ n (Ls : List Lay), Ls.length = n → (∀ L ∈ Ls, L.ok = true) → ((flatL Ls).length : Int) + 1 = attOf Ls
  | 0, Ls, e, _ => by
    have e' : Ls = [] := List.length_eq_zero_iff.mp e
    subst e'
    rfl
  | n + 1, Ls, e, h => by
    have hne : Ls ≠ [] := fun z => by rw [z] at e; cases e
    obtain ⟨Ms, L, rfl⟩ : ∃ Ms L, Ls = Ms ++ [L] := ⟨_, _, (List.dropLast_concat_getLast hne).symm⟩
    rw [List.length_append] at e
    have ih := flatL_len n Ms (by simpa using e) fun M hM => h M (List.mem_append_left _ hM)
    have h1 := h L (List.mem_append_right _ List.mem_cons_self)
    have h3 := LayAt.con_pos h1
    have h4 := waits_len h1
    rw [attOf_snoc, flatL_snoc, ← ih]
    split
    · have e5 := nestL_len (flatL Ms) L.waits
      rw [← h4]
      exact_mod_cast e5
    · have : L.cnt = 1 := by omega
      rw [this, Int.mul_one]
theorem attOf_part : ∀ (Ms Ls : List Lay), (∀ L ∈ Ls, L.ok = true) → (∀ L ∈ Ms, L.ok = true) → 1 ≤ attOf Ms ∧ attOf Ms ≤ attOf (Ms ++ Ls)
  | Ms, [], _, h => by
    rw [List.append_nil]
    refine ⟨?_, Int.le_refl _⟩
    have := flatL_len _ Ms rfl h
    omega
  | Ms, L :: Ls, h0, h => by
    have h1 := attOf_part (Ms ++ [L]) Ls (fun M hM => h0 M (List.mem_cons_of_mem _ hM)) (fun M hM => by
      rcases List.mem_append.mp hM with z | z
      · exact h M z
      · rw [List.mem_singleton.mp z]
        exact h0 L List.mem_cons_self)
    rw [List.append_assoc] at h1
    have h2 := LayAt.con_pos (h0 L List.mem_cons_self)
    have h3 := flatL_len _ Ms rfl h
    rw [attOf_snoc] at h1
    have h4 : attOf Ms * 1 ≤ attOf Ms * L.cnt := Int.mul_le_mul_of_nonneg_left h2 (by omega)
    refine ⟨by omega, ?_⟩
    have h5 : attOf Ms * L.cnt ≤ attOf (Ms ++ ([L] ++ Ls)) := h1.2
    have h6 : Ms ++ L :: Ls = Ms ++ ([L] ++ Ls) := rfl
    rw [h6]
    omega
theorem cnt_le {Ls : List Lay} (h : ∀ L ∈ Ls, L.ok = true) {L : Lay} (hL : L ∈ Ls) : L.cnt ≤ attOf Ls := by
  obtain ⟨As, Bs, rfl⟩ := List.append_of_mem hL
  have h1 := attOf_part As [] (fun _ z => nomatch z) (fun M hM => h M (List.mem_append_left _ hM))
  have h2 := attOf_part (As ++ [L]) Bs (fun M hM => h M (List.mem_append_right _ (List.mem_cons_of_mem _ hM))) (fun M hM => by
    rcases List.mem_append.mp hM with z | z
    · exact h M (List.mem_append_left _ z)
    · rw [List.mem_singleton.mp z]
      exact h L hL)
  have h3 := LayAt.con_pos (h L hL)
  rw [attOf_snoc, List.append_assoc] at h2
  have h4 : 1 * L.cnt ≤ attOf As * L.cnt := Int.mul_le_mul_of_nonneg_right h1.1 (by omega)
  have h5 : attOf As * L.cnt ≤ attOf (As ++ ([L] ++ Bs)) := h2.2
  have h6 : As ++ L :: Bs = As ++ ([L] ++ Bs) := rfl
  rw [h6]
  omega
theorem attOf_pos {Ls : List Lay} (h : ∀ L ∈ Ls, L.ok = true) : 1 ≤ attOf Ls := (attOf_part Ls [] (fun _ z => nomatch z) h).1
theorem part_left {t c left most : Int} (ht : 1 ≤ t) (hc : 1 ≤ c) (hl : c ≤ left) (h : t * left ≤ most) : 1 ≤ left / c ∧ t * c * (left / c) ≤ most := by
  refine ⟨by rw [Int.le_ediv_iff_mul_le (by omega)]; omega, ?_⟩
  have h1 : c * (left / c) ≤ left := by
    have := Int.mul_ediv_add_emod left c
    have := Int.emod_nonneg left (show c ≠ 0 by omega)
    omega
  rw [Int.mul_assoc]
  exact Int.le_trans (Int.mul_le_mul_of_nonneg_left h1 (by omega)) h
theorem le_left {t left most : Int} (ht : 1 ≤ t) (hl : 1 ≤ left) (h : t * left ≤ most) : t ≤ most := by
  have : t * 1 ≤ t * left := Int.mul_le_mul_of_nonneg_left hl (by omega)
  omega
theorem rep_flat {α : Type} (x : α) : ∀ m : Nat, (List.replicate m [x]).flatten = List.replicate m x
  | 0 => rfl
  | m + 1 => by
    rw [List.replicate_succ, List.flatten_cons, rep_flat x m, List.replicate_succ]
    rfl
def Lay.dat : Lay → PyData
  | .pol ns => dInts ns
  | .con w n => .tuple [.int w, .int n]
theorem dp_lay {K : PySem.W.Frag} {G : Hp} {v : V} {L : Lay} (h : LayAt G v L) : Dp K G v L.dat := by
  cases L with
  | pol ns => obtain ⟨p, rfl, hp⟩ := h; exact dp_ints (sql hp)
  | con w n => obtain ⟨p, rfl, hp⟩ := h; exact .tup (sqt hp) (.cons (.int w) (.cons (.int n) .nil))
theorem dp_lays {K : PySem.W.Frag} {G : Hp} : ∀ (vs : List V) (Ls : List Lay), vs.length = Ls.length → (∀ (i : Nat) v L, vs[i]? = some v → Ls[i]? = some L → LayAt G v L) → DpAll K G vs (Ls.map Lay.dat)
  | [], [], _, _ => .nil
  | [], _ :: _, h, _ => by cases h
  | _ :: _, [], h, _ => by cases h
  | v :: vs, L :: Ls, h, hat => .cons (dp_lay (hat 0 v L rfl rfl)) (dp_lays vs Ls (by simpa using h) fun i u M a b => hat (i + 1) u M a b)
theorem dp_nest {K : PySem.W.Frag} {G : Hp} {p : Addr} {Ls : List Lay} (h : NestAt G p Ls) : Dp K G (.ref p) (.list (Ls.map Lay.dat)) := by
  obtain ⟨vs, h1, h2, h3⟩ := h
  exact .lst (sql h1) (dp_lays vs Ls h2 h3)
theorem cut_one (xs : List V) : cutV xs none (some 1) = xs.take 1 := by
  unfold cutV
  rw [HT.sIx_none, show HT.sIx xs.length xs.length (some 1) = min 1 xs.length from HT.sIx_nat xs.length _ 1]
  cases xs with
  | nil => rfl
  | cons x r =>
    rw [show min 1 (x :: r).length = 1 by rw [List.length_cons]; omega]
    rfl
theorem flatL_con {w n : Int} (h0 : 0 ≤ w) (h1 : 1 ≤ n) : flatL [.con w n] = List.replicate (n - 1).toNat w := by
  rw [flatL_fold fun L hL => by rw [List.mem_singleton.mp hL, Lay.ok_con, decide_eq_true h0, decide_eq_true h1]; rfl]
  show nestL [] (List.replicate (n - 1).toNat w) = _
  rw [nil_nestL]
theorem NestV.low {H0 G : Hp} {a d p : Addr} {us : List V} {Ls : List Lay} (hv : NestV H0 (hid a d G) p us Ls) : NestAt G p Ls := by
  obtain ⟨z1, z2, z3, _⟩ := hv
  refine ⟨us, (hid_get z1).1, z2, fun i v L x y => ?_⟩
  have := z3 i v L x y
  cases L with
  | pol ns => obtain ⟨p, e, z⟩ := this; exact ⟨p, e, (hid_get z).1⟩
  | con w n => obtain ⟨p, e, z⟩ := this; exact ⟨p, e, (hid_get z).1⟩
theorem nice_cnt {L : Lay} (h : L.nice) : L.cnt < 2 ^ 100 := by
  obtain ⟨h0, h1⟩ := h
  cases L with
  | pol ns =>
    obtain ⟨h1, _⟩ := h1
    show (ns.length : Int) + 1 < 2 ^ 100
    omega
  | con w n =>
    obtain ⟨_, h1⟩ := h1
    show n < 2 ^ 100
    omega
theorem cut_n (xs : List V) (n : Nat) : cutV xs none (some (n : Int)) = xs.take n := by
  unfold cutV
  rw [HT.sIx_none, show HT.sIx xs.length xs.length (some (n : Int)) = min n xs.length from HT.sIx_nat xs.length _ n]
  show (xs.drop 0).take (min n xs.length - 0) = _
  rw [List.drop_zero, Nat.sub_zero]
  by_cases h : n ≤ xs.length
  · rw [Nat.min_eq_left h]
  · rw [Nat.min_eq_right (by omega), List.take_length, List.take_of_length_le (by omega)]
theorem cut_to (xs : List V) (n : Nat) : cutV xs (some (n : Int)) none = xs.drop n := by
  unfold cutV
  rw [HT.sIx_none, show HT.sIx xs.length 0 (some (n : Int)) = min n xs.length from HT.sIx_nat xs.length _ n]
  by_cases h : n ≤ xs.length
  · rw [Nat.min_eq_left h]
    exact List.take_of_length_le (by rw [List.length_drop]; omega)
  · rw [Nat.min_eq_right (by omega), List.drop_eq_nil_of_le (Nat.le_refl _), List.drop_eq_nil_of_le (by omega)]
    exact List.take_nil
theorem ne_same {d : PyData} {A B : Prop} (h : d.canLay0 = true) (b : B) : if (!PyData.eqv d d) = true then A else B := by
  rw [eqv_refl' d h]
  exact iteF b
theorem ne_val {x y : V} {A B : Prop} (h : x = y) (b : B) : if (!decide (x = y)) = true then A else B := by
  rw [h, decide_eq_true rfl]
  exact iteF b
end Rn

set_option Elab.async false
set_option linter.all false
set_option maxRecDepth 100000
set_option maxHeartbeats 4000000
namespace Rn
open PySem PySem.Spec PyProof.Rows L2
/-! ## repr of data; a law entered where no list is being shown -/
section
variable {X : Cx} {K : PySem.W.Frag}
def rRepr (K : PySem.W.Frag) : List V → Hp → VK → Prop := fun xs H Q => ∃ (p : Addr) (d : PyData), xs = [.ref p] ∧ Dp K H (.ref p) d ∧ d.showable = true ∧ d.hasDict = false ∧ d.depth ≤ 50 ∧ d.shown.length ≤ sizeLine ∧ Q (.str d.shown) H
theorem call_repr {k : Nat} (hg : X.A.guards = some []) (hr : Room k X.A) : CallR X (.builtin "repr") (rRepr X.K) := by
  intro pins s σ H xs us Q I r h
  obtain ⟨p, d, rfl, hd, hs, hh, hdep, hz, q⟩ := h
  cases r with
  | cons r1 r2 =>
    cases r2
    cases r1
    obtain ⟨as, rd⟩ := Dp.reads I d _ _ hd rfl
    have hu := hr.units
    exact repr_of_reads' rd hs (PyData.noDict_hsm hh) hg (by omega) (fun _ _ e => e) (fun h' u tk hk => ⟨.str d.shown, H, I.kept (t' := tk) hk, ⟨u, rfl⟩, q⟩) hz
end
section
variable {P : Program} {w : World} {K : PySem.W.Frag} {mg : Str → Option Value} {base : Heap}
/-- a promise that is kept wherever nothing is being shown -/
def FnG (P : Program) (w : World) (K : PySem.W.Frag) (mg : Str → Option Value) (base : Heap) (k : Nat) (f : Addr) (fd : FuncData) (ps : List Str) (sp : Sp) : Prop :=
  ∀ (A : Around) (outer : List Env) (s : Shared) (H : Hp) (args : Args) (us : List Value) (vs : List V) (Q : VK) (E : XK), A.guards = some [] → Room k A → Env0 P w K mg base A outer s H →
    BindsTo s fd args (ps.zip us) → Vals vs us → vs.length = ps.length → sp vs H Q E → codeAny (model P w) A (.call (.ref f) args) (CR CX0 outer P w H s Q E) s
theorem okG {x qual : Str} {st : Stmt} {f : Addr} {fd : FuncData} {N ps : List Str} {k : Nat} {sp : Sp} (F : Fun K x qual st f fd) (S : FnScope N ps (defScope st))
    (hbody : ∀ (cdv : Value) (A : Around) (outer : List Env) (s : Shared) (H : Hp) (vs : List V) (Q : VK) (E : XK), A.guards = some [] → Room k (A.deeper (envOfC qual (defScope st) s.heap.objs.size f cdv)) → sp vs H Q E →
      ∃ t, PSs (cxOf CX0 P w K mg base N qual (defScope st) f cdv A outer s H E).nox (defBody st) t ∧ t { nx := fun _ H' => Q .non H', rt := Q } (start N vs) H) :
    FnG P w K mg base (k + 1) f fd ps sp := by
  obtain ⟨oc, od, kV, doc, pm, an, cdv, ct, osl, efd, look, code⟩ := F.ex
  subst efd
  intro A outer s H args us vs Q E guard room e0 bind rel hlen want
  have same : ∀ b o, base.get? b = some o → s.heap.get? b = some o := fun b o z => (e0.bs b o z).1
  refine Att.call_fn (e0.mod.kin.keeps same) (e0.mod.nolimit.keeps same) look code room.depth bind ?_ (fun s1 x1 => ?_) S.co S.gen S.kind
  · rw [List.all_eq_true]
    rintro ⟨n, v⟩ hm
    rcases S.par n (List.of_mem_zip hm).1 with z | z
    · simp [z]
    · simp [z]
  obtain ⟨t, ht, hq⟩ := hbody cdv A outer s H vs Q E guard (room.deeper _) want
  have start0 : Inv (cxOf CX0 P w K mg base N qual (defScope st) f cdv A outer s H E) [] (start N vs) H s1 := inv_start S room.hd e0 hlen rel x1
  refine wpAny_mono (ht.nox.run [] s1 _ H _ start0 hq) (fun flow s2 done => ?_) (fun _ _ z => z)
  cases flow with
  | brk => exact (by obtain ⟨_, _, _, z⟩ := done; exact False.elim z)
  | cont => exact (by obtain ⟨_, _, _, z⟩ := done; exact False.elim z)
  | next =>
    obtain ⟨_, H2, J, z⟩ := done
    exact ⟨.non, H2, J.os, J.bare, J.base, J.hok, rfl, z⟩
  | ret u =>
    obtain ⟨v, _, H2, J, rv, z⟩ := done
    exact ⟨v, H2, J.os, J.bare, J.base, J.hok, rv, z⟩
/-- the heap's view at a law's entry: the script is known to the object, unless it is one of the text's own -/
def seen (K : PySem.W.Frag) (a : Addr) (vs : List Value) (ns : List Int) : Hp := fun b =>
  if b = a ∧ K.lookup a = none then some (.frz { cls := .type "list", data := .seq vs.toArray } (.lst (ns.map V.int))) else none
theorem seen_some {a b : Addr} {vs : List Value} {ns : List Int} {o : HO} (h : seen K a vs ns b = some o) : b = a ∧ K.lookup a = none ∧ o = .frz { cls := .type "list", data := .seq vs.toArray } (.lst (ns.map V.int)) := by
  unfold seen at h
  by_cases z : b = a ∧ K.lookup a = none
  · rw [if_pos z] at h
    exact ⟨z.1, z.2, (Option.some.inj h).symm⟩
  · rw [if_neg z] at h
    cases h
theorem law_at {mb : Str → Option Value} {fa a : Addr} {s1 : Shared} {vs : List Value} {ns : List Int} (hK : K.In s1.heap) (hmg : s1.heap.Ns mainGlobals mg) (hmb : s1.heap.Ns builtinsNs mb)
    (hbo : ∀ x : Str, x ≠ "__name__" → mb x = bootBuiltins x) (lim : s1.heap.NoLimit) (gens : s1.gens = #[]) (here : s1.heap.get? a = some { cls := .type "list", data := .seq vs.toArray }) (nums : IntsAre vs ns) (few : ns.length ≤ 63)
    (run : ∀ (base : Heap) (H : Hp), K.In base → base.Ns mainGlobals mg → Env0 P w K mg base callerA [] s1 H → SqL K H a (ns.map V.int) → codeAny (model P w) callerA (.call (.ref fa) ⟨[.ref a], []⟩) (CR CX0 [] P w H s1 (fun v _ => v = .bl true) E0) s1) :
    codeAny (model P w) callerA (.call (.ref fa) ⟨[.ref a], []⟩) (fun r s' => r = .ok (.ret (.bool true)) ∧ OldK s1.heap s'.heap ∧ s'.os = s1.os ∧ AllBare s'.gens) s1 := by
  have rel := vals_ints nums
  have cnt := nums.length
  have notDict : ∀ {b : Addr} {m : Str → Option Value}, s1.heap.Ns b m → seen K a vs ns b = none := fun {b m} z => by
    obtain ⟨o, es, ep, e, d, _⟩ := z
    cases q : seen K a vs ns b with
    | none => rfl
    | some u =>
      obtain ⟨eb, _, _⟩ := seen_some q
      rw [eb, here] at e
      cases e
      cases d
  have shift : ∀ {b : Addr} {m : Str → Option Value}, s1.heap.Ns b m → (hidT s1.heap (seen K a vs ns)).Ns b m := fun z => by
    have n := notDict z
    obtain ⟨o, es, ep, e, r⟩ := z
    exact ⟨o, es, ep, hidT_get e n, r⟩
  have kin : K.In (hidT s1.heap (seen K a vs ns)) := fun b o e => hidT_get (hK b o e) (by
    cases q : seen K a vs ns b with
    | none => rfl
    | some u =>
      obtain ⟨eb, en, _⟩ := seen_some q
      rw [eb, en] at e
      cases e)
  have hok : HOk P w (seen K a vs ns) s1.heap := fun b o e => by
    obtain ⟨rfl, _, rfl⟩ := seen_some e
    exact ⟨here, size_le (by rw [List.length_map]; omega), vs, _, rel, here⟩
  have env : Env0 P w K mg (hidT s1.heap (seen K a vs ns)) callerA [] s1 (seen K a vs ns) :=
    ⟨rfl, ⟨kin, shift hmg, ⟨mb, shift hmb, hbo⟩, by obtain ⟨mc, z1, z2⟩ := lim; exact ⟨mc, shift z1, z2⟩⟩, fun b o e => of_hidT e, Nat.le_of_eq (hidT_size _ _), trivial, (fun b z => nomatch z), hok, .of_eq gens⟩
  have script : SqL K (seen K a vs ns) a (ns.map V.int) := by
    cases q : K.lookup a with
    | none => exact .inl (.inr ⟨_, if_pos ⟨rfl, q⟩⟩)
    | some o =>
      have e := hK a o q
      rw [here] at e
      cases e
      exact .inr ⟨_, vs.toArray, _, q, rfl, rfl, rfl, by rw [List.size_toArray, cnt]; exact size_le (by omega), by simpa using rel⟩
  refine codeAny_mono (run _ _ kin (shift hmg) env script) fun r s' z => ?_
  cases r with
  | error e => exact False.elim z
  | ok flow =>
    cases flow with
    | brk => exact False.elim z
    | cont => exact False.elim z
    | next => exact False.elim z
    | ret u =>
      obtain ⟨v, H', os, bare, un, hok', rv, (rfl : v = .bl true)⟩ := z
      cases (show u = Value.bool true from rv)
      refine ⟨rfl, OldK.of_keep fun b o e => ?_, os, bare⟩
      cases q : seen K a vs ns b with
      | none => exact un.keep b o e q (fun z => nomatch z) (fun z => nomatch z)
      | some y =>
        obtain ⟨_, _, rfl⟩ := seen_some q
        obtain ⟨e2, _⟩ := hok' b _ (un.frzs b _ _ q)
        obtain ⟨e1, _⟩ := hok b _ q
        rw [e] at e1
        cases e1
        exact e2
end
/-- the walk's end for a law that shows lists -/
theorem walk_G {l : PySem.W.OpenLaw} {k : Nat} {q : Program} {loose : List Str} {XP : (Str → Option Value) → Heap → Prop} {YP : World → Heap → Prop} {d : DefRec} {K : Params → PySem.W.Frag} {sp : PySem.W.Frag → Sp}
    (hn : l.most = some 63) (hdf : d.params.defaults = []) (hr : Room k callerA) (hY : ∀ (w : World) (h : Heap), YP w h → (K w.params).In h)
    (F : ∀ (w : World) (mg : Str → Option Value) (fa : Addr) (h : Heap), (K w.params).In h → h.Ns mainGlobals mg → mg d.name = some (.ref fa) →
      ∃ fd : FuncData, (∀ (s : Shared) (u : Value), BindsTo s fd ⟨[u], []⟩ [("script", u)]) ∧ ∀ base : Heap, (K w.params).In base → base.Ns mainGlobals mg → FnG l.prog w (K w.params) mg base k fa fd ["script"] (sp (K w.params)))
    (hsp : ∀ (K : PySem.W.Frag) (H : Hp) (a : Addr) (ns : List Int), ns.length ≤ 63 → SqL K H a (ns.map V.int) → sp K [.ref a] H (fun v _ => v = .bl true) E0) :
    PySem.W.WalkO q loose XP YP l.row.toRowW d [] (fun f vs => PySem.call f vs) := by
  refine Att.attach_call hn hdf fun w s0 s1 mg mb fa o pm cd doc a vs ns G Y _ _ _ hmg here nums few gens => ?_
  obtain ⟨fd, bind, run⟩ := F w mg fa _ (hY w _ Y) G.T.g hmg
  exact law_at (hY w _ Y) G.T.g G.T.b G.T.builtins G.T.nolimit gens here nums few fun base H kin ns1 env script =>
    run base kin ns1 callerA [] s1 H _ [.ref a] [.ref a] _ _ rfl hr env (bind s1 (.ref a)) (.cons rfl .nil) rfl (hsp _ H a ns few script)
end Rn
namespace Rn
open PySem PySem.Spec PyProof.Rows L2
/-! ## calls by keywords alone -/
def tCallKw (sp : Sp) (gV : List V → List V → List V) (E : XK) (tk : TA) : TE := fun σ H Q => tk σ H fun zs H1 => sp (gV [] zs) H1 Q E
section
variable {X : Cx} {CX : CXT} {k : Nat} {f : Addr} {fd : FuncData} {ps ks : List Str} {sp : Sp} {E : XK} {x : Str} {p pos : Pos} {kws : List Keyword} {tk : TA} {g : List Value → List Value → List Value} {gV : List V → List V → List V}
theorem pe_callKw (F : FnOk X.prog X.w X.K X.mg X.base CX k f fd ps sp) (room : Room k X.A) (hg : Gl X x) (here : X.mg x = some (.ref f)) (keep : PySem.W.keepIn X.K (.ref f) = true) (bind : KBinds X.K fd ps ks g gV) (out : Passes CX X E)
    (hkw : PK X kws tk) (named : (backToKw pos (keywordEach kws X.env)).all (·.1.isSome) = true := by rfl) (order : (backToKw pos (keywordEach kws X.env)).filterMap (·.1) = ks := by rfl)
    (nodebug : (x == ("__debug__" : Str)) = false := by decide) (plain : ((backTo pos (starEach [] X.env)).any (·.1) || (backToKw pos (keywordEach kws X.env)).any (·.1.isNone)) = false := by rfl) :
    PE X (.Call (.Name x p) [] kws pos) (tCallKw sp gV E tk) := by
  constructor
  intro pins s σ H Q I h
  refine wpAny_Call_Name_kw (ld_glob I hg here ?_ nodebug)
  refine PySem.W.callWith_KW0 (h₀ := X.base) I.ok.mod.kin keep named (thn (hkw.run pos pins s σ H _ I h) fun ws s2 z => ?_) plain
  obtain ⟨zs, H2, I2, rz, q2⟩ := z
  rw [order]
  exact ⟨I2.kIn, run_fnk (us := []) (vs := []) F room bind out I2 .nil rz q2⟩
end
def kw1 {α : Type} : List α → List α → List α
  | [], [a] => [a]
  | _, _ => []
def kw2r {α : Type} : List α → List α → List α
  | [], [a, b] => [b, a]
  | _, _ => []
section
variable {K : PySem.W.Frag} {fd : FuncData} {p q : Str}
theorem kb1 (h : ∀ (s : Shared) (a : Value), BindsTo s fd ⟨[], [(p, a)]⟩ [(p, a)]) : KBinds K fd [p] [p] kw1 kw1 := by
  refine ⟨fun s us ws _ hl => ?_, fun {vs us zs ws} r1 r2 => ?_⟩
  · match us, ws, hl with
    | [], [a], _ => exact h s a
  · cases r1 with
    | cons _ _ => exact .nil
    | nil =>
      cases r2 with
      | nil => exact .nil
      | cons a r =>
        cases r with
        | nil => exact .cons a .nil
        | cons _ _ => exact .nil
theorem kb2r (h : ∀ (s : Shared) (a b : Value), BindsTo s fd ⟨[], [(q, a), (p, b)]⟩ [(p, b), (q, a)]) : KBinds K fd [p, q] [q, p] kw2r kw2r := by
  refine ⟨fun s us ws _ hl => ?_, fun {vs us zs ws} r1 r2 => ?_⟩
  · match us, ws, hl with
    | [], [a, b], _ => exact h s a b
  · cases r1 with
    | cons _ _ => exact .nil
    | nil =>
      cases r2 with
      | nil => exact .nil
      | cons a r =>
        cases r with
        | nil => exact .nil
        | cons b r =>
          cases r with
          | nil => exact .cons b (.cons a .nil)
          | cons _ _ => exact .nil
end
/-! ## data that can be shown -/
structure Shw (d : PyData) (W D : Nat) : Prop where
  show1 : d.showable = true
  plain : d.hasDict = false
  short : d.leavesShort 25 = true
  heavy : d.weight ≤ W
  deep : d.depth ≤ D
theorem Shw.fits {d : PyData} {W D : Nat} (s : Shw d W D) (h : W ≤ 500000) : d.shown.length ≤ sizeLine := by
  have h1 := PyData.shown_le 25 (by decide) d s.short
  have h2 := s.heavy
  have h3 : (25 + 2) * d.weight ≤ 27 * 500000 := Nat.mul_le_mul (by decide) (by omega)
  rw [sizeLine_eq]
  omega
theorem log_lt {i : Int} (h : i.natAbs < 10 ^ 24) : i.natAbs.log2 < 80 := PySem.Flt.log2_lt_of (k := 80) (by decide) (Nat.lt_trans h (by decide))
theorem Shw.int {i : Int} (h : i.natAbs < 10 ^ 24) : Shw (.int i) 80 1 := by
  have h1 := log_lt h
  refine ⟨?_, rfl, ?_, ?_, ?_⟩
  · simp only [PyData.showable, decide_eq_true_eq]
    omega
  · simp only [PyData.leavesShort, decide_eq_true_eq]
    have e := int_text_length_le10 (k := 24) (by decide) h
    show (Str.ofString (toString i)).length ≤ 25
    rw [PySem.ofString_length]
    exact e
  · simp only [PyData.weight]
    split
    · omega
    · omega
  · simp only [PyData.depth]
    omega
theorem Shw.all {W D : Nat} : ∀ ds : List PyData, (∀ d ∈ ds, Shw d W D) → PyData.showableAll ds = true ∧ PyData.hasDictAll ds = false ∧ PyData.leavesShortAll 25 ds = true ∧ PyData.weightAll ds ≤ ds.length * (W + 1) ∧ PyData.depthAll ds ≤ D
  | [], _ => ⟨rfl, rfl, rfl, Nat.zero_le _, Nat.zero_le _⟩
  | d :: ds, h => by
    obtain ⟨a1, a2, a3, a4, a5⟩ := Shw.all ds fun e he => h e (List.mem_cons_of_mem _ he)
    obtain ⟨b1, b2, b3, b4, b5⟩ := h d List.mem_cons_self
    refine ⟨?_, ?_, ?_, ?_, ?_⟩
    · simp only [PyData.showableAll, b1, a1, Bool.and_self]
    · simp only [PyData.hasDictAll, b2, a2, Bool.or_self]
    · simp only [PyData.leavesShortAll, b3, a3, Bool.and_self]
    · simp only [PyData.weightAll, List.length_cons, Nat.succ_mul]
      omega
    · simp only [PyData.depthAll]
      omega
theorem Shw.list {W D : Nat} {ds : List PyData} (h : ∀ d ∈ ds, Shw d W D) : Shw (.list ds) (ds.length * (W + 1)) (D + 1) := by
  obtain ⟨a1, a2, a3, a4, a5⟩ := Shw.all ds h
  exact ⟨by simpa only [PyData.showable] using a1, by simpa only [PyData.hasDict] using a2, by simpa only [PyData.leavesShort] using a3, by simpa only [PyData.weight] using a4, by simp only [PyData.depth]; omega⟩
theorem Shw.tuple {W D : Nat} {ds : List PyData} (h : ∀ d ∈ ds, Shw d W D) : Shw (.tuple ds) (ds.length * (W + 1)) (D + 1) := by
  obtain ⟨a1, a2, a3, a4, a5⟩ := Shw.all ds h
  exact ⟨by simpa only [PyData.showable] using a1, by simpa only [PyData.hasDict] using a2, by simpa only [PyData.leavesShort] using a3, by simpa only [PyData.weight] using a4, by simp only [PyData.depth]; omega⟩
theorem Shw.mono {d : PyData} {W W' D D' : Nat} (s : Shw d W D) (h : W ≤ W') (h' : D ≤ D') : Shw d W' D' := ⟨s.1, s.2, s.3, Nat.le_trans s.4 h, Nat.le_trans s.5 h'⟩
theorem Shw.nums {ns : List Int} (h : ∀ x ∈ ns, x.natAbs < 10 ^ 24) : Shw (dInts ns) (ns.length * 81) 2 := by
  have := Shw.list (ds := ns.map .int) (W := 80) (D := 1) fun d hd => by
    obtain ⟨x, hx, rfl⟩ := List.mem_map.mp hd
    exact Shw.int (h x hx)
  rw [List.length_map] at this
  exact this
theorem Shw.two {d e : PyData} {W D : Nat} (h1 : Shw d W D) (h2 : Shw e W D) : Shw (.list [d, e]) (2 * (W + 1)) (D + 1) :=
  Shw.list (ds := [d, e]) fun x hx => by
    simp only [List.mem_cons, List.not_mem_nil, or_false] at hx
    rcases hx with rfl | rfl
    · exact h1
    · exact h2
theorem ne_str {x y : Str} {A B : Prop} (h : x = y) (b : B) : if (!decide (V.str x = V.str y)) = true then A else B := by
  rw [h, decide_eq_true rfl]
  exact iteF b
theorem Shw.lay {L : Lay} (h : L.nice) : Shw L.dat 4860 2 := by
  obtain ⟨h0, h1⟩ := h
  cases L with
  | pol ns =>
    obtain ⟨h1, h2⟩ := h1
    exact (Shw.nums fun x hx => by have := h2 x hx; omega).mono (by omega) (Nat.le_refl _)
  | con w n =>
    obtain ⟨h1, h2⟩ := h1
    have h3 := LayAt.con_pos h0
    have h3 : 1 ≤ n := h3
    rw [Lay.ok_con, Bool.and_eq_true] at h0
    have h4 := of_decide_eq_true h0.1
    refine (Shw.tuple (ds := [.int w, .int n]) (W := 80) (D := 1) fun d hd => ?_).mono (by show 2 * 81 ≤ 4860; decide) (Nat.le_refl _)
    simp only [List.mem_cons, List.not_mem_nil, or_false] at hd
    rcases hd with rfl | rfl
    · exact Shw.int (by omega)
    · exact Shw.int (by omega)
theorem Shw.nest {Ls : List Lay} {m : Nat} (h : ∀ L ∈ Ls, L.nice) (hl : Ls.length ≤ m) : Shw (.list (Ls.map Lay.dat)) (m * 4861) 3 := by
  refine (Shw.list (ds := Ls.map Lay.dat) (W := 4860) (D := 2) fun d hd => ?_).mono (by rw [List.length_map]; exact Nat.mul_le_mul_right _ hl) (Nat.le_refl _)
  obtain ⟨L, hL, rfl⟩ := List.mem_map.mp hd
  exact Shw.lay (h L hL)
end Rn

set_option Elab.async false
set_option linter.all false
set_option maxRecDepth 100000
set_option maxHeartbeats 4000000
namespace Rn
open PySem PySem.Spec PyProof.Rows L2
/-! ## the source of draws that is a dict: at a, its great numbers at g; at most n draws were mixed -/
def bagKV (g : Addr) (l t f : Int) : List (Key × V) := [(Sum.inr "great", .ref g), (Sum.inr "left", .int l), (Sum.inr "turn", .int t), (Sum.inr "fold", .int f)]
theorem bag_left {g : Addr} {l t f x : Int} : putK (bagKV g l t f) (Sum.inr "left") (.int x) = bagKV g x t f := by rfl
theorem bag_turn {g : Addr} {l t f x : Int} : putK (bagKV g l t f) (Sum.inr "turn") (.int x) = bagKV g l x f := by rfl
theorem bag_get {H : Hp} {a g : Addr} {l t f : Int} (h : H a = some (.dK (bagKV g l t f))) : DGet H a (.str "left") (some (.int l)) ∧ DGet H a (.str "great") (some (.ref g)) ∧ DGet H a (.str "turn") (some (.int t)) ∧ DGet H a (.str "fold") (some (.int f)) :=
  ⟨DGet.k (k := Sum.inr "left") h, DGet.k (k := Sum.inr "great") h, DGet.k (k := Sum.inr "turn") h, DGet.k (k := Sum.inr "fold") h⟩
def Bag (H : Hp) (a g : Addr) (n : Int) : Prop := ∃ (l t f : Int) (ds : List Int), H a = some (.dK (bagKV g l t f)) ∧ H g = some (.lst (ds.map V.int)) ∧ 0 ≤ f ∧ f < 2305843009213693951 ∧ 0 ≤ t ∧ t ≤ n
theorem Bag.ne {H : Hp} {a g : Addr} {n : Int} (s : Bag H a g n) : a ≠ g := by
  obtain ⟨l, t, f, ds, h1, h2, _⟩ := s
  intro e
  rw [e, h2] at h1
  cases h1
theorem Bag.same {H H' : Hp} {a g : Addr} {n : Int} (s : Bag H a g n) (e : Same H H') : Bag H' a g n := by
  obtain ⟨l, t, f, ds, h1, h2, h3⟩ := s
  exact ⟨l, t, f, ds, e _ _ h1, e _ _ h2, h3⟩
theorem Bag.keep {H : Hp} {a g p : Addr} {o : HO} {n : Int} (s : Bag H a g n) (ha : p ≠ a) (hg : p ≠ g) : Bag (upd H p o) a g n := by
  obtain ⟨l, t, f, ds, h1, h2, h3⟩ := s
  exact ⟨l, t, f, ds, by rw [upd_ne ha.symm]; exact h1, by rw [upd_ne hg.symm]; exact h2, h3⟩
theorem Bag.mono {H : Hp} {a g : Addr} {n m : Int} (s : Bag H a g n) (h : n ≤ m) : Bag H a g m := by
  obtain ⟨l, t, f, ds, h1, h2, h3, h4, h5, h6⟩ := s
  exact ⟨l, t, f, ds, h1, h2, h3, h4, h5, Int.le_trans h6 h⟩
theorem Bag.new1 {H : Hp} {a g p : Addr} {n : Int} (s : Bag H a g n) (h : H p = none) : p ≠ a ∧ p ≠ g := by
  obtain ⟨l, t, f, ds, h1, h2, _⟩ := s
  exact ⟨(ne_of_none h1 h).symm, (ne_of_none h2 h).symm⟩
/-- what a call that draws at most c times does to the heap -/
structure Bdv (a g : Addr) (c : Int) (H H' : Hp) : Prop where
  same : Same (hid a g H) (hid a g H')
  src : ∀ n, Bag H a g n → Bag H' a g (n + c)
theorem Bdv.refl {a g : Addr} {H : Hp} : Bdv a g 0 H H := ⟨Same.refl _, fun n s => s.mono (by omega)⟩
theorem Bdv.trans {a g : Addr} {c c' e : Int} {H H1 H2 : Hp} (x : Bdv a g c H H1) (y : Bdv a g c' H1 H2) (h : c + c' ≤ e) : Bdv a g e H H2 :=
  ⟨x.same.trans y.same, fun n s => (y.src _ (x.src _ s)).mono (by omega)⟩
theorem Bdv.mono {a g : Addr} {c e : Int} {H H1 : Hp} (x : Bdv a g c H H1) (h : c ≤ e) : Bdv a g e H H1 := ⟨x.same, fun n s => (x.src _ s).mono (by omega)⟩
theorem Bdv.of {a g : Addr} {H H' : Hp} (e : Same H H') : Bdv a g 0 H H' := ⟨hid_same e, fun n s => (s.same e).mono (by omega)⟩
theorem Bdv.mut {a g : Addr} {c : Int} {H H' : Hp} {p : Addr} {o : HO} {n : Int} (x : Bdv a g c H H') (s : Bag H a g n) (h : H p = none) : Bdv a g c H (upd H' p o) := by
  obtain ⟨h1, h2⟩ := s.new1 h
  refine ⟨?_, fun m t => (x.src m t).keep h1 h2⟩
  rw [hid_oth h1 h2]
  exact same_keep x.same (hid_none h)
theorem Bdv.free {a g p : Addr} {c n : Int} {H H' : Hp} (x : Bdv a g c H H') (s : Bag H a g n) (h : H' p = none) : H p = none := by
  obtain ⟨h1, h2⟩ := (x.src n s).new1 h
  cases q : H p with
  | none => rfl
  | some o =>
    have e := (hid_get (x.same p o (hid_at q h1 h2))).1
    rw [h] at e
    cases e
theorem Bdv.made {a g : Addr} {c l t f l' t' : Int} {H H' : Hp} {ds' : List Int} (e : Same (hid a g H) (hid a g H')) (h : H a = some (.dK (bagKV g l t f)))
    (h' : H' a = some (.dK (bagKV g l' t' f))) (hg' : H' g = some (.lst (ds'.map V.int))) (h0 : t ≤ t') (h1 : t' ≤ t + c) : Bdv a g c H H' := by
  refine ⟨e, fun n s => ?_⟩
  obtain ⟨l2, t2, f2, ds, a1, a2, a3, a4, a5, a6⟩ := s
  rw [h] at a1
  injection (Option.some.inj a1) with a1
  injection a1 with _ a1
  injection a1 with _ a1
  injection a1 with b1 a1
  injection a1 with b2 _
  injection b1 with _ b1
  injection b1 with b1
  injection b2 with _ b2
  injection b2 with b2
  subst b1 b2
  exact ⟨l', t', f, ds', h', hg', a3, a4, by omega, by omega⟩
/-- a list of the way that stands beside the source -/
theorem sq_bag {K : PySem.W.Frag} {H0 H1 H' : Hp} {sa a g : Addr} {c : Int} {xs : List V} (h : SqL K H0 sa xs) (f : H0 a = none) (f2 : H0 g = none) (s : Same H0 H1) (A : Bdv a g c H1 H') : SqL K H' sa xs := by
  rcases h with (h | ⟨o, h⟩) | h
  · have h1 := s _ _ h
    have n1 : sa ≠ a := fun e => by rw [e, f] at h; cases h
    have n2 : sa ≠ g := fun e => by rw [e, f2] at h; cases h
    exact .inl (.inl (hid_get (A.same _ _ (hid_at h1 n1 n2))).1)
  · have h1 := s _ _ h
    have n1 : sa ≠ a := fun e => by rw [e, f] at h; cases h
    have n2 : sa ≠ g := fun e => by rw [e, f2] at h; cases h
    exact .inl (.inr ⟨o, (hid_get (A.same _ _ (hid_at h1 n1 n2))).1⟩)
  · exact .inr h
/-- a dict comprehension over a list that stands still -/
theorem dc_list {K : PySem.W.Frag} {a : Addr} {xs : List V} {g : TG} {tt : TT} {tk tv : TE} {vs : List Nat} {σ : L2.St} {H1 : Hp} {D : Addr} {Qd : Hp → Prop} (Pv : Nat → Hp → Prop) (h0 : Pv 0 (upd H1 D (.dK [])))
    (hl : ∀ i H, i ≤ xs.length → Pv i H → SqL K H a xs)
    (hs : ∀ i x H, xs[i]? = some x → Pv i H → g x (wipe σ vs) H fun σ2 H2 => wipe σ2 vs = wipe σ vs ∧ tt σ2 H2 fun b H3 =>
      if b = true then tk σ2 H3 fun y H4 => tv σ2 H4 fun z H5 => ∃ kvs k, y = kV k ∧ H5 D = some (.dK kvs) ∧ kvs.length < sizeLine ∧ Pv (i + 1) (upd H5 D (.dK (putK kvs k z))) else Pv (i + 1) H3) (hd : ∀ H, Pv xs.length H → Qd H) :
    ∃ W : Nat → Nat → Hp → Prop, (∃ m, W 0 m (upd H1 D (.dK []))) ∧ ∀ i m H, W i m H →
      ((Itl K a).stop i H ∧ Qd H) ∨ ((Itl K a).go i H ∧ ∃ Nx : Hp → Prop, (∀ H', Nx H' → ∃ m', m' < m ∧ W (i + 1) m' H') ∧ ∀ x H', (Itl K a).yld i H x H' → g x (wipe σ vs) H' fun σ2 H2 => wipe σ2 vs = wipe σ vs ∧ tt σ2 H2 fun b H3 =>
        if b = true then tk σ2 H3 fun y H4 => tv σ2 H4 fun z H5 => ∃ kvs k, y = kV k ∧ H5 D = some (.dK kvs) ∧ kvs.length < sizeLine ∧ Nx (upd H5 D (.dK (putK kvs k z))) else Nx H3) := by
  refine ⟨fun i m H => m = xs.length - i ∧ i ≤ xs.length ∧ Pv i H, ⟨xs.length, by simp, Nat.zero_le _, h0⟩, ?_⟩
  rintro i m H ⟨rfl, hi, p⟩
  have q := hl i H hi p
  by_cases hlt : i < xs.length
  · refine .inr ⟨⟨xs, xs[i], q, by simp [hlt]⟩, Pv (i + 1), fun H' p' => ⟨xs.length - (i + 1), by omega, rfl, hlt, p'⟩, fun x H' y => ?_⟩
    obtain ⟨e, y⟩ := y
    subst e
    exact hs i x _ (y xs q) p
  · have e : i = xs.length := by omega
    subst e
    exact .inl ⟨⟨xs, q, Nat.le_refl _⟩, hd H p⟩
/-! ## comprehensions over ints -/
/-- [x for x in range(lo, lo + n) if p(x)], where a turn changes nothing -/
theorem lc_filter {lo : Int} {n : Nat} {g : TG} {tt : TT} {te : TE} {vs : List Nat} {σ : L2.St} {H1 : Hp} {D : Addr} {Qd : Hp → Prop} (p : Int → Bool) (hD : H1 D = none) (hn : n ≤ 50000)
    (hs : ∀ i H (T : V → Hp → Prop) (F : Hp → Prop), i < n → Same H1 H → (p (lo + (i : Int)) = true → T (.int (lo + (i : Int))) H) → (p (lo + (i : Int)) = false → F H) →
      g (.int (lo + (i : Int))) (wipe σ vs) H fun σ2 H2 => wipe σ2 vs = wipe σ vs ∧ tt σ2 H2 fun b H3 => if b = true then te σ2 H3 T else F H3)
    (hd : ∀ H2, Same H1 H2 → H2 D = some (.lst ((((List.range n).map fun i : Nat => lo + (i : Int)).filter p).map V.int)) → Qd H2) :
    ∃ W : Nat → Nat → Hp → Prop, (∃ m, W 0 m (upd H1 D (.lst []))) ∧ ∀ i m H, W i m H →
      ((Itr lo n).stop i H ∧ Qd H) ∨ ((Itr lo n).go i H ∧ ∃ Nx : Hp → Prop, (∀ H', Nx H' → ∃ m', m' < m ∧ W (i + 1) m' H') ∧ ∀ x H', (Itr lo n).yld i H x H' → g x (wipe σ vs) H' fun σ2 H2 => wipe σ2 vs = wipe σ vs ∧ tt σ2 H2 fun b H3 =>
        if b = true then te σ2 H3 fun y H4 => ∃ acc, H4 D = some (.lst acc) ∧ acc.length < sizeLine ∧ Nx (upd H4 D (.lst (acc ++ [y]))) else Nx H3) := by
  have tk : ∀ i : Nat, ((List.range (i + 1)).map fun i : Nat => lo + (i : Int)).filter p = ((List.range i).map fun i : Nat => lo + (i : Int)).filter p ++ (if p (lo + (i : Int)) = true then [lo + (i : Int)] else []) := fun i => by
    rw [List.range_succ, List.map_append, List.filter_append]
    congr 1
    rw [List.map_cons, List.map_nil, List.filter_cons, List.filter_nil]
  refine lc_range (fun i H' => Same H1 H' ∧ H' D = some (.lst ((((List.range i).map fun i : Nat => lo + (i : Int)).filter p).map V.int))) ⟨same_new hD, upd_same⟩ (fun i H hi h => ?_) (fun H h => hd H h.1 h.2)
  obtain ⟨sm, hd1⟩ := h
  refine hs i H _ _ hi sm (fun e => ?_) (fun e => ?_)
  · refine ⟨_, hd1, size_lt ?_, same_keep sm hD, ?_⟩
    · rw [List.length_map]
      have := List.length_filter_le p ((List.range i).map fun i : Nat => lo + (i : Int))
      rw [List.length_map, List.length_range] at this
      omega
    · rw [upd_same, tk, if_pos e, List.map_append]
      rfl
  · refine ⟨sm, ?_⟩
    rw [tk, if_neg (by rw [e]; exact Bool.false_ne_true), List.append_nil]
    exact hd1
/-- [f(x) for x in ns], where a turn changes nothing that stood -/
theorem lc_mapI {K : PySem.W.Frag} {a : Addr} {ns : List Int} {g : TG} {te : TE} {vs : List Nat} {σ : L2.St} {H1 : Hp} {D : Addr} {Qd : Hp → Prop} (f : Int → Int) (hD : H1 D = none) (ha : SqL K H1 a (ns.map V.int)) (hn : ns.length ≤ 50000)
    (hs : ∀ (i : Nat) x H (T : V → Hp → Prop), ns[i]? = some x → Same H1 H → (∀ H', Same H H' → T (.int (f x)) H') → g (.int x) (wipe σ vs) H fun σ2 H2 => wipe σ2 vs = wipe σ vs ∧ te σ2 H2 T)
    (hd : ∀ H2, Same H1 H2 → H2 D = some (.lst ((ns.map f).map V.int)) → Qd H2) (hg : ∀ x σ H (R R' : L2.St → Hp → Prop), (∀ σ H, R σ H → R' σ H) → g x σ H R → g x σ H R') :
    ∃ W : Nat → Nat → Hp → Prop, (∃ m, W 0 m (upd H1 D (.lst []))) ∧ ∀ i m H, W i m H →
      ((Itl K a).stop i H ∧ Qd H) ∨ ((Itl K a).go i H ∧ ∃ Nx : Hp → Prop, (∀ H', Nx H' → ∃ m', m' < m ∧ W (i + 1) m' H') ∧ ∀ x H', (Itl K a).yld i H x H' → g x (wipe σ vs) H' fun σ2 H2 => wipe σ2 vs = wipe σ vs ∧ tYes σ2 H2 fun b H3 =>
        if b = true then te σ2 H3 fun y H4 => ∃ acc, H4 D = some (.lst acc) ∧ acc.length < sizeLine ∧ Nx (upd H4 D (.lst (acc ++ [y]))) else Nx H3) := by
  refine lc_list (xs := ns.map V.int) (fun i H' => Same H1 H' ∧ H' D = some (.lst (((ns.take i).map f).map V.int))) ⟨same_new hD, upd_same⟩ (fun i H _ h => h.1.seq ha) (fun i x H hx h => ?_) (fun H h => hd H h.1 ?_)
  · obtain ⟨sm, hd1⟩ := h
    rw [List.getElem?_map] at hx
    obtain ⟨c, hc, rfl⟩ := Option.map_eq_some_iff.mp hx
    have hi : i < ns.length := (List.getElem?_eq_some_iff.mp hc).1
    refine hg _ _ _ _ _ (fun σ2 H2 z => ⟨z.1, yes_thn z.2⟩) (hs i c H _ hc sm fun H' s' => ?_)
    refine ⟨_, s' _ _ hd1, size_lt (by rw [List.length_map, List.length_map, List.length_take]; omega), same_keep (sm.trans s') hD, ?_⟩
    rw [upd_same, List.take_add_one, hc, Option.toList_some, List.map_append, List.map_append]
    rfl
  · have := h.2
    rw [List.length_map, List.take_length] at this
    exact this
theorem gName_mono {i : Nat} : ∀ x σ H (R R' : L2.St → Hp → Prop), (∀ σ H, R σ H → R' σ H) → gName i x σ H R → gName i x σ H R' := fun x σ H R R' k h => k _ _ h
end Rn

set_option Elab.async false
set_option linter.all false
set_option maxRecDepth 100000
set_option maxHeartbeats 4000000
namespace Rn
open PySem PySem.Spec PyProof.Rows L2
/-! ## counting: divisors, the numbers of policies whose normal form begins in a certain way -/
def pds (n : Nat) : List Nat := (List.range n).filter fun d => decide (1 ≤ d) && decide (n % d = 0)
def dvs (n : Nat) : List Nat := (List.range (n + 1)).filter fun d => decide (1 ≤ d) && decide (n % d = 0)
def cI (ds : List Nat) : List Int := ds.map fun d : Nat => (d : Int)
theorem mem_pds {n d : Nat} : d ∈ pds n ↔ d < n ∧ 1 ≤ d ∧ n % d = 0 := by
  unfold pds
  rw [List.mem_filter, List.mem_range, Bool.and_eq_true, decide_eq_true_eq, decide_eq_true_eq]
theorem mem_dvs {n d : Nat} : d ∈ dvs n ↔ d ≤ n ∧ 1 ≤ d ∧ n % d = 0 := by
  unfold dvs
  rw [List.mem_filter, List.mem_range, Bool.and_eq_true, decide_eq_true_eq, decide_eq_true_eq, Nat.lt_succ_iff]
theorem dvs_eq {n : Nat} (h : 1 ≤ n) : dvs n = pds n ++ [n] := by
  unfold dvs pds
  rw [List.range_succ, List.filter_append, List.filter_cons, if_pos (by rw [Bool.and_eq_true, decide_eq_true_eq, decide_eq_true_eq]; exact ⟨h, Nat.mod_self n⟩), List.filter_nil]
theorem dvs_one {n : Nat} (h : 1 ≤ n) : ∃ r, dvs n = 1 :: r := by
  obtain ⟨m, rfl⟩ : ∃ m, n = m + 1 := ⟨n - 1, by omega⟩
  unfold dvs
  rw [List.range_succ_eq_map, List.filter_cons, if_neg (by simp), List.range_succ_eq_map, List.map_cons, List.filter_cons, if_pos (by simp [Nat.mod_one])]
  exact ⟨_, rfl⟩
theorem dvs_len (n : Nat) : (dvs n).length ≤ n + 1 := by
  unfold dvs
  refine Nat.le_trans (List.length_filter_le _ _) ?_
  rw [List.length_range]
  exact Nat.le_refl _
theorem pds_len (n : Nat) : (pds n).length ≤ n := by
  unfold pds
  refine Nat.le_trans (List.length_filter_le _ _) ?_
  rw [List.length_range]
  exact Nat.le_refl _
theorem range_lt (n m : Nat) (h : m ≤ n) : (List.range n).filter (fun d => decide (d < m)) = List.range m := by
  induction n with
  | zero =>
    have : m = 0 := by omega
    subst this
    rfl
  | succ n ih =>
    rw [List.range_succ, List.filter_append, List.filter_cons, List.filter_nil]
    by_cases e : m = n + 1
    · subst e
      rw [if_pos (decide_eq_true (by omega)), List.filter_eq_self.mpr fun x hx => decide_eq_true (by have := List.mem_range.mp hx; omega), List.range_succ]
    · rw [if_neg (by rw [decide_eq_true_eq]; omega), List.append_nil]
      exact ih (by omega)
/-- the proper divisors of a divisor stand among the divisors -/
theorem dvs_pds {n m : Nat} (h : m ∈ dvs n) : (dvs n).filter (fun d => decide (d < m) && decide (m % d = 0)) = pds m := by
  obtain ⟨h1, h2, h3⟩ := mem_dvs.mp h
  unfold dvs pds
  rw [← range_lt (n + 1) m (by omega), List.filter_filter, List.filter_filter]
  congr 1
  funext d
  rw [Bool.eq_iff_iff]
  simp only [Bool.and_eq_true, decide_eq_true_eq]
  constructor
  · rintro ⟨⟨a, b⟩, c, d⟩
    exact ⟨⟨c, b⟩, a⟩
  · rintro ⟨⟨c, b⟩, a⟩
    refine ⟨⟨a, b⟩, c, ?_⟩
    have z1 : d ∣ m := Nat.dvd_of_mod_eq_zero b
    have z2 : m ∣ n := Nat.dvd_of_mod_eq_zero h3
    exact Nat.mod_eq_zero_of_dvd (Nat.dvd_trans z1 z2)
def othG (k : Int) : Nat → Nat → Int
  | 0, _ => 0
  | f + 1, n => k ^ (n - 1) - ((pds n).map (othG k f)).sum
def othF (k : Int) (n : Nat) : Int := othG k n n
theorem oth_same (k : Int) : ∀ n f, 1 ≤ n → n ≤ f → othG k f n = othF k n := by
  intro n
  induction n using Nat.strongRecOn with
  | _ n ih =>
    intro f h1 h2
    obtain ⟨g, rfl⟩ : ∃ g, f = g + 1 := ⟨f - 1, by omega⟩
    obtain ⟨m, rfl⟩ : ∃ m, n = m + 1 := ⟨n - 1, by omega⟩
    unfold othF othG
    congr 2
    refine List.map_congr_left fun d hd => ?_
    obtain ⟨d1, d2, _⟩ := mem_pds.mp hd
    rw [ih d d1 g d2 (by omega), ih d d1 m d2 (by omega)]
theorem oth_eq (k : Int) {n : Nat} (h : 1 ≤ n) : othF k n = k ^ (n - 1) - ((pds n).map (othF k)).sum := by
  obtain ⟨m, rfl⟩ : ∃ m, n = m + 1 := ⟨n - 1, by omega⟩
  show othG k (m + 1) (m + 1) = _
  unfold othG
  congr 2
  refine List.map_congr_left fun d hd => ?_
  obtain ⟨d1, d2, _⟩ := mem_pds.mp hd
  exact oth_same k d m d2 (by omega)
theorem oth_one (k : Int) : othF k 1 = 1 := by
  rw [oth_eq k (Nat.le_refl 1), show pds 1 = [] by decide]
  simp
def lstG (k : Int) : Nat → Nat → Int
  | 0, _ => 0
  | f + 1, n => if n ≤ 1 then 0 else k ^ (n - 1) - k * (k ^ (n - 1) - othF k n) - ((pds n).map fun d => lstG k f d * k ^ (n / d - 1)).sum
def lstF (k : Int) (n : Nat) : Int := lstG k n n
theorem lst_same (k : Int) : ∀ n f, 1 ≤ n → n ≤ f → lstG k f n = lstF k n := by
  intro n
  induction n using Nat.strongRecOn with
  | _ n ih =>
    intro f h1 h2
    obtain ⟨g, rfl⟩ : ∃ g, f = g + 1 := ⟨f - 1, by omega⟩
    obtain ⟨m, rfl⟩ : ∃ m, n = m + 1 := ⟨n - 1, by omega⟩
    unfold lstF lstG
    split
    · rfl
    · congr 2
      refine List.map_congr_left fun d hd => ?_
      obtain ⟨d1, d2, _⟩ := mem_pds.mp hd
      rw [ih d d1 g d2 (by omega), ih d d1 m d2 (by omega)]
theorem lst_one (k : Int) : lstF k 1 = 0 := rfl
theorem lst_eq (k : Int) {n : Nat} (h : 2 ≤ n) : lstF k n = k ^ (n - 1) - k * (k ^ (n - 1) - othF k n) - ((pds n).map fun d => lstF k d * k ^ (n / d - 1)).sum := by
  obtain ⟨m, rfl⟩ : ∃ m, n = m + 1 := ⟨n - 1, by omega⟩
  show lstG k (m + 1) (m + 1) = _
  unfold lstG
  rw [if_neg (by omega)]
  congr 2
  refine List.map_congr_left fun d hd => ?_
  obtain ⟨d1, d2, _⟩ := mem_pds.mp hd
  rw [lst_same k d m d2 (by omega)]
/-- what count_unsplittable gives -/
def cntF (k : Int) (n : Nat) : Int := lstF k n + (if (dvs n).length = 2 then k else 0)
/-! bounds -/
theorem sum_abs : ∀ (xs : List Int) (B : Nat), (∀ x ∈ xs, x.natAbs ≤ B) → xs.sum.natAbs ≤ xs.length * B
  | [], _, _ => by simp
  | x :: xs, B, h => by
    have h1 := h x List.mem_cons_self
    have h2 := sum_abs xs B fun y hy => h y (List.mem_cons_of_mem _ hy)
    rw [List.sum_cons, List.length_cons, Nat.succ_mul]
    have := Int.natAbs_add_le x xs.sum
    omega
theorem pow_abs {k : Int} {n e : Nat} (hk : k.natAbs ≤ 2 ^ e) : (k ^ n).natAbs ≤ 2 ^ (e * n) := by
  rw [Int.natAbs_pow, Nat.pow_mul]
  exact Nat.pow_le_pow_left hk n
theorem le_two_pow (n : Nat) : n ≤ 2 ^ n := Nat.le_of_lt Nat.lt_two_pow_self
theorem oth_abs {k : Int} (hk : k.natAbs ≤ 2 ^ 7) : ∀ n, 1 ≤ n → n ≤ 200 → (othF k n).natAbs ≤ 2 ^ (16 * n) := by
  intro n
  induction n using Nat.strongRecOn with
  | _ n ih =>
    intro h1 h2
    rw [oth_eq k h1]
    obtain ⟨m, rfl⟩ : ∃ m, n = m + 1 := ⟨n - 1, by omega⟩
    rw [show m + 1 - 1 = m by omega]
    have p1 := pow_abs (n := m) hk
    have s1 := sum_abs ((pds (m + 1)).map (othF k)) (2 ^ (16 * m)) fun x hx => by
      obtain ⟨d, hd, rfl⟩ := List.mem_map.mp hx
      obtain ⟨d1, d2, _⟩ := mem_pds.mp hd
      exact Nat.le_trans (ih d d1 d2 (by omega)) (Nat.pow_le_pow_right (by decide) (by omega))
    rw [List.length_map] at s1
    have l1 := pds_len (m + 1)
    have s2 : (pds (m + 1)).length * 2 ^ (16 * m) ≤ 2 ^ 8 * 2 ^ (16 * m) := Nat.mul_le_mul_right _ (by omega)
    have a1 := Int.natAbs_sub_le (k ^ m) ((pds (m + 1)).map (othF k)).sum
    have b1 : 2 ^ (7 * m) ≤ 2 ^ (16 * m) := Nat.pow_le_pow_right (by decide) (by omega)
    rw [show 16 * (m + 1) = 16 * m + 16 by omega, Nat.pow_add]
    generalize 2 ^ (16 * m) = B at *
    omega
theorem prop_div {n d : Nat} (h : d ∈ pds n) : d * 2 ≤ n ∧ n / d ≤ n ∧ 1 ≤ n / d := by
  obtain ⟨h1, h2, h3⟩ := mem_pds.mp h
  have e := Nat.div_add_mod n d
  rw [h3, Nat.add_zero] at e
  have hle := Nat.div_le_self n d
  have h4 : 2 ≤ n / d := by
    rcases Nat.lt_or_ge (n / d) 2 with z | z
    · exfalso
      have : n / d = 0 ∨ n / d = 1 := by generalize n / d = q at z; omega
      rcases this with y | y
      · rw [y, Nat.mul_zero] at e
        exact absurd h1 (by rw [← e]; exact Nat.not_lt_zero d)
      · rw [y, Nat.mul_one] at e
        exact absurd h1 (by rw [e]; exact Nat.lt_irrefl n)
    · exact z
  have h5 : d * 2 ≤ d * (n / d) := Nat.mul_le_mul_left _ h4
  exact ⟨by rw [e] at h5; exact h5, hle, Nat.le_trans (by decide) h4⟩
theorem lst_abs {k : Int} (hk : k.natAbs ≤ 2 ^ 7) : ∀ n, 1 ≤ n → n ≤ 200 → (lstF k n).natAbs ≤ 2 ^ (32 * n) := by
  intro n
  induction n using Nat.strongRecOn with
  | _ n ih =>
    intro h1 h2
    by_cases e : n = 1
    · subst e
      rw [lst_one]
      exact Nat.zero_le _
    rw [lst_eq k (by omega)]
    have p1 := pow_abs (n := n - 1) hk
    have o1 := oth_abs hk n h1 h2
    have s1 := sum_abs ((pds n).map fun d => lstF k d * k ^ (n / d - 1)) (2 ^ (23 * n)) fun x hx => by
      obtain ⟨d, hd, rfl⟩ := List.mem_map.mp hx
      obtain ⟨d1, d2, _⟩ := mem_pds.mp hd
      obtain ⟨q1, q2, q3⟩ := prop_div hd
      have i1 := ih d d1 d2 (by omega)
      have i2 := pow_abs (n := n / d - 1) hk
      rw [Int.natAbs_mul]
      refine Nat.le_trans (Nat.mul_le_mul i1 i2) ?_
      rw [← Nat.pow_add]
      exact Nat.pow_le_pow_right (by decide) (by omega)
    rw [List.length_map] at s1
    have l1 := pds_len n
    have s2 : (pds n).length * 2 ^ (23 * n) ≤ 2 ^ 8 * 2 ^ (23 * n) := Nat.mul_le_mul_right _ (by omega)
    have a0 := Int.natAbs_sub_le (k ^ (n - 1)) (othF k n)
    have a1 : (k * (k ^ (n - 1) - othF k n)).natAbs ≤ 2 ^ 7 * (k ^ (n - 1) - othF k n).natAbs := by
      rw [Int.natAbs_mul]
      exact Nat.mul_le_mul_right _ hk
    have a2 := Int.natAbs_sub_le (k ^ (n - 1)) (k * (k ^ (n - 1) - othF k n))
    have a3 := Int.natAbs_sub_le (k ^ (n - 1) - k * (k ^ (n - 1) - othF k n)) ((pds n).map fun d => lstF k d * k ^ (n / d - 1)).sum
    have b1 : 2 ^ (7 * (n - 1)) ≤ 2 ^ (23 * n) := Nat.pow_le_pow_right (by decide) (by omega)
    have b2 : 2 ^ (16 * n) ≤ 2 ^ (23 * n) := Nat.pow_le_pow_right (by decide) (by omega)
    have b3 : 2 ^ 18 * 2 ^ (23 * n) ≤ 2 ^ (32 * n) := by
      rw [← Nat.pow_add]
      exact Nat.pow_le_pow_right (by decide) (by omega)
    generalize 2 ^ (23 * n) = B at *
    generalize 2 ^ (32 * n) = C at *
    generalize k ^ (n - 1) = x at *
    generalize othF k n = y at *
    generalize ((pds n).map fun d => lstF k d * k ^ (n / d - 1)).sum = z at *
    generalize k * (x - y) = u at *
    omega
theorem cI_get {ds : List Nat} {i : Nat} {x : V} (h : ((cI ds).map V.int)[i]? = some x) : ∃ d, ds[i]? = some d ∧ x = .int (d : Int) := by
  unfold cI at h
  rw [List.getElem?_map, List.getElem?_map] at h
  cases e : ds[i]? with
  | none => rw [e] at h; cases h
  | some d => rw [e] at h; exact ⟨d, rfl, (Option.some.inj h).symm⟩
theorem cI_len (ds : List Nat) : ((cI ds).map V.int).length = ds.length := by
  unfold cI
  rw [List.length_map, List.length_map]
/-- a dict of ints that gives F at each of the numbers ds -/
def Tab (kvs : List (Key × V)) (ds : List Nat) (F : Nat → Int) : Prop := ∀ d ∈ ds, valV kvs (Sum.inl (d : Int)) = some (.int (F d))
theorem Tab.put {kvs : List (Key × V)} {ds : List Nat} {F : Nat → Int} {d : Nat} (h : Tab kvs ds F) : Tab (putK kvs (Sum.inl (d : Int)) (.int (F d))) (ds ++ [d]) F := fun e he => by
  rw [valV_put]
  by_cases z : e = d
  · subst z
    rw [if_pos rfl]
  · rw [if_neg (fun y => z (by injection y with y; exact Int.ofNat.inj y))]
    rcases List.mem_append.mp he with m | m
    · exact h e m
    · exact absurd (List.mem_singleton.mp m) z
theorem Tab.get {H : Hp} {a : Addr} {kvs : List (Key × V)} {ds : List Nat} {F : Nat → Int} {d : Nat} (t : Tab kvs ds F) (h : H a = some (.dK kvs)) (hd : d ∈ ds) : DGet H a (.int (d : Int)) (some (.int (F d))) := by
  have := DGet.k (k := Sum.inl (d : Int)) h
  rw [t d hd] at this
  exact this
end Rn

set_option Elab.async false
set_option linter.all false
set_option maxRecDepth 100000
set_option maxHeartbeats 4000000
namespace Rn
open PySem PySem.Spec PyProof.Rows L2
/-! ## numbers of unsplittable policies: primes, products of two, squares, cubes; all policies -/
theorem perm_sum {xs ys : List Int} (h : xs.Perm ys) : xs.sum = ys.sum := by
  induction h with
  | nil => rfl
  | cons x _ ih => rw [List.sum_cons, List.sum_cons, ih]
  | swap x y l => rw [List.sum_cons, List.sum_cons, List.sum_cons, List.sum_cons]; omega
  | trans _ _ a b => rw [a, b]
theorem oth_of {k : Int} {n : Nat} {ds : List Nat} (h : 1 ≤ n) (e : (pds n).Perm ds) : othF k n = k ^ (n - 1) - (ds.map (othF k)).sum := by
  rw [oth_eq k h, perm_sum (e.map (othF k))]
theorem lst_of {k : Int} {n : Nat} {ds : List Nat} (h : 2 ≤ n) (e : (pds n).Perm ds) : lstF k n = k ^ (n - 1) - k * (k ^ (n - 1) - othF k n) - (ds.map fun d => lstF k d * k ^ (n / d - 1)).sum := by
  rw [lst_eq k h, perm_sum (e.map fun d => lstF k d * k ^ (n / d - 1))]
def Prm (p : Nat) : Prop := 2 ≤ p ∧ (pds p).Perm [1]
theorem Prm.cnt2 {p : Nat} (h : Prm p) : (dvs p).length = 2 := by
  rw [dvs_eq (by have := h.1; omega), List.length_append, h.2.length_eq]
  rfl
theorem oth_p {k : Int} {p : Nat} (h : Prm p) : othF k p = k ^ (p - 1) - 1 := by
  rw [oth_of (by have := h.1; omega) h.2]
  simp [oth_one]
theorem lst_p {k : Int} {p : Nat} (h : Prm p) : lstF k p = k ^ (p - 1) - k := by
  rw [lst_of h.1 h.2, oth_p h]
  simp [lst_one]
  rw [show k ^ (p - 1) - (k ^ (p - 1) - 1) = 1 by omega, Int.mul_one]
theorem cnt_p {k : Int} {p : Nat} (h : Prm p) : cntF k p = k ^ (p - 1) := by
  unfold cntF
  rw [if_pos h.cnt2, lst_p h]
  omega
theorem cnt_comp {k : Int} {n : Nat} {ds : List Nat} (h : 2 ≤ n) (e : (pds n).Perm ds) (h3 : ds.length ≠ 1) : cntF k n = lstF k n := by
  unfold cntF
  rw [if_neg, Int.add_zero]
  rw [dvs_eq (by omega), List.length_append, e.length_eq]
  show ds.length + 1 ≠ 2
  omega
theorem pow_mul_one (k : Int) {n : Nat} (h : 1 ≤ n) : k * k ^ (n - 1) = k ^ n := by
  obtain ⟨m, rfl⟩ : ∃ m, n = m + 1 := ⟨n - 1, by omega⟩
  rw [Nat.add_sub_cancel, Int.pow_succ, Int.mul_comm]
theorem cnt_pq {k : Int} {p q : Nat} (hp : Prm p) (hq : Prm q) (e : (pds (p * q)).Perm [1, p, q]) : cntF k (p * q) = k ^ (p * q - 1) - 2 * k ^ (p + q - 2) + k := by
  have p2 := hp.1
  have q2 := hq.1
  have hn : 2 * 2 ≤ p * q := Nat.mul_le_mul p2 q2
  rw [cnt_comp (by omega) e (by show 3 ≠ 1; decide), lst_of (by omega) e, oth_of (by omega) e]
  simp only [List.map_cons, List.map_nil, List.sum_cons, List.sum_nil, oth_one, lst_one, oth_p hp, oth_p hq, lst_p hp, lst_p hq]
  rw [Nat.mul_div_cancel_left q (by omega), Nat.mul_div_cancel p (by omega)]
  have e1 : k ^ (p - 1) * k ^ (q - 1) = k ^ (p + q - 2) := by
    rw [← Int.pow_add]
    congr 1
    omega
  have e2 : k ^ (q - 1) * k ^ (p - 1) = k ^ (p + q - 2) := by rw [Int.mul_comm, e1]
  rw [Int.sub_mul, Int.sub_mul, e1, e2, pow_mul_one k (by omega), pow_mul_one k (by omega)]
  have e3 : k * (k ^ (p * q - 1) - (k ^ (p * q - 1) - (1 + (k ^ (p - 1) - 1 + (k ^ (q - 1) - 1 + 0))))) = k ^ p + k ^ q - k := by
    rw [show k ^ (p * q - 1) - (k ^ (p * q - 1) - (1 + (k ^ (p - 1) - 1 + (k ^ (q - 1) - 1 + 0)))) = k ^ (p - 1) + k ^ (q - 1) - 1 by omega, Int.mul_sub, Int.mul_add, pow_mul_one k (by omega), pow_mul_one k (by omega), Int.mul_one]
  rw [e3]
  omega
theorem cnt_pp {k : Int} {p : Nat} (hp : Prm p) (e : (pds (p * p)).Perm [1, p]) : cntF k (p * p) = k ^ (p * p - 1) - k ^ (2 * p - 2) := by
  have p2 := hp.1
  have hn : 2 * 2 ≤ p * p := Nat.mul_le_mul p2 p2
  rw [cnt_comp (by omega) e (by show 2 ≠ 1; decide), lst_of (by omega) e, oth_of (by omega) e]
  simp only [List.map_cons, List.map_nil, List.sum_cons, List.sum_nil, oth_one, lst_one, oth_p hp, lst_p hp]
  rw [Nat.mul_div_cancel p (by omega)]
  have e1 : k ^ (p - 1) * k ^ (p - 1) = k ^ (2 * p - 2) := by
    rw [← Int.pow_add]
    congr 1
    omega
  rw [Int.sub_mul, e1, pow_mul_one k (by omega), show k ^ (p * p - 1) - (k ^ (p * p - 1) - (1 + (k ^ (p - 1) - 1 + 0))) = k ^ (p - 1) by omega, pow_mul_one k (by omega)]
  omega
theorem oth_pp {k : Int} {p : Nat} (hp : Prm p) (e : (pds (p * p)).Perm [1, p]) : othF k (p * p) = k ^ (p * p - 1) - k ^ (p - 1) := by
  have p2 := hp.1
  have hn : 2 * 2 ≤ p * p := Nat.mul_le_mul p2 p2
  rw [oth_of (by omega) e]
  simp only [List.map_cons, List.map_nil, List.sum_cons, List.sum_nil, oth_one, oth_p hp]
  omega
theorem cnt_ppp {k : Int} {p : Nat} (hp : Prm p) (e2 : (pds (p * p)).Perm [1, p]) (e : (pds (p * p * p)).Perm [1, p, p * p]) : cntF k (p * p * p) = k ^ (p * p * p - 1) - (2 * k ^ (p + p * p - 2) - k ^ (3 * p - 3)) := by
  have p2 := hp.1
  have hn : 2 * 2 ≤ p * p := Nat.mul_le_mul p2 p2
  have hm : 4 * 2 ≤ p * p * p := Nat.mul_le_mul hn p2
  have l2 : lstF k (p * p) = k ^ (p * p - 1) - k ^ (2 * p - 2) := by
    rw [← cnt_comp (by omega) e2 (by show 2 ≠ 1; decide), cnt_pp hp e2]
  rw [cnt_comp (by omega) e (by show 3 ≠ 1; decide), lst_of (by omega) e, oth_of (by omega) e]
  simp only [List.map_cons, List.map_nil, List.sum_cons, List.sum_nil, oth_one, lst_one, oth_p hp, lst_p hp, oth_pp hp e2, l2]
  rw [Nat.mul_div_cancel_left p (by omega), show p * p * p / p = p * p by rw [Nat.mul_div_cancel _ (by omega)]]
  have a1 : k ^ (p - 1) * k ^ (p * p - 1) = k ^ (p + p * p - 2) := by
    rw [← Int.pow_add]
    congr 1
    omega
  have a2 : k ^ (p * p - 1) * k ^ (p - 1) = k ^ (p + p * p - 2) := by rw [Int.mul_comm, a1]
  have a3 : k ^ (2 * p - 2) * k ^ (p - 1) = k ^ (3 * p - 3) := by
    rw [← Int.pow_add]
    congr 1
    omega
  rw [Int.sub_mul, Int.sub_mul, a1, a2, a3, pow_mul_one k (by omega), show k ^ (p * p * p - 1) - (k ^ (p * p * p - 1) - (1 + (k ^ (p - 1) - 1 + (k ^ (p * p - 1) - k ^ (p - 1) + 0)))) = k ^ (p * p - 1) by omega, pow_mul_one k (by omega)]
  omega
/-! all policies by their first layers -/
/-- the divisors from 2 on -/
def dv2 (n : Nat) : List Nat := (dvs n).filter fun d => decide (2 ≤ d)
theorem mem_dv2 {n d : Nat} : d ∈ dv2 n ↔ 2 ≤ d ∧ d ≤ n ∧ n % d = 0 := by
  unfold dv2
  rw [List.mem_filter, mem_dvs, decide_eq_true_eq]
  constructor
  · rintro ⟨⟨a, b, c⟩, d⟩; exact ⟨d, a, c⟩
  · rintro ⟨a, b, c⟩; exact ⟨⟨b, by omega, c⟩, a⟩
theorem nodup_dv2 (n : Nat) : (dv2 n).Nodup := List.Nodup.sublist List.filter_sublist (List.Nodup.sublist List.filter_sublist List.nodup_range)
theorem nodup_pds (n : Nat) : (pds n).Nodup := List.Nodup.sublist List.filter_sublist List.nodup_range
theorem co_div {n d : Nat} (h1 : 1 ≤ n) (h : n % d = 0) : n / (n / d) = d ∧ n / d * d = n := by
  have e := Nat.div_mul_cancel (Nat.dvd_of_mod_eq_zero h)
  refine ⟨?_, e⟩
  have hd : 0 < n / d := by
    rcases Nat.eq_zero_or_pos (n / d) with z | z
    · rw [z, Nat.zero_mul] at e
      omega
    · exact z
  have := Nat.mul_div_cancel_left d hd
  rw [e] at this
  exact this
theorem co_perm {n : Nat} (h1 : 1 ≤ n) : ((dv2 n).map fun d => n / d).Perm (pds n) := by
  have inj : ((dv2 n).map fun d => n / d).Nodup := by
    have key : ∀ l : List Nat, (∀ d ∈ l, n % d = 0) → l.Nodup → (l.map fun d => n / d).Nodup := by
      intro l
      induction l with
      | nil => intro _ _; exact List.nodup_nil
      | cons a l ih =>
        intro h hn
        rw [List.nodup_cons] at hn
        rw [List.map_cons, List.nodup_cons]
        refine ⟨fun z => ?_, ih (fun d hd => h d (List.mem_cons_of_mem _ hd)) hn.2⟩
        obtain ⟨b, hb, e⟩ := List.mem_map.mp z
        have ha := (co_div h1 (h a List.mem_cons_self)).1
        have hb' := (co_div h1 (h b (List.mem_cons_of_mem _ hb))).1
        rw [← ha, ← e, hb'] at hn
        exact hn.1 hb
    exact key _ (fun d hd => (mem_dv2.mp hd).2.2) (nodup_dv2 n)
  rw [List.perm_ext_iff_of_nodup inj (nodup_pds n)]
  intro x
  rw [List.mem_map, mem_pds]
  constructor
  · rintro ⟨d, hd, rfl⟩
    obtain ⟨a, b, c⟩ := mem_dv2.mp hd
    obtain ⟨e1, e2⟩ := co_div h1 c
    have hpos : 1 ≤ n / d := by
      rcases Nat.eq_zero_or_pos (n / d) with z | z
      · rw [z, Nat.zero_mul] at e2; omega
      · exact z
    refine ⟨?_, hpos, Nat.mod_eq_zero_of_dvd ⟨d, e2.symm⟩⟩
    exact Nat.div_lt_self (by omega) (by omega)
  · rintro ⟨a, b, c⟩
    obtain ⟨e1, e2⟩ := co_div h1 c
    refine ⟨n / x, mem_dv2.mpr ⟨?_, Nat.div_le_self n x, Nat.mod_eq_zero_of_dvd ⟨x, e2.symm⟩⟩, e1⟩
    rcases Nat.lt_or_ge (n / x) 2 with z | z
    · exfalso
      have : n / x = 0 ∨ n / x = 1 := by generalize n / x = y at z; omega
      rcases this with y | y
      · rw [y, Nat.zero_mul] at e2; omega
      · rw [y, Nat.one_mul] at e2; omega
    · exact z
/-- the policies that begin with a constant layer of one wait -/
def conF (k : Int) (n : Nat) : Int := k ^ (n - 1) - othF k n
theorem con_one (k : Int) : conF k 1 = 0 := by
  unfold conF
  rw [oth_one]
  simp
theorem con_sum (k : Int) {n : Nat} (h : 1 ≤ n) : (((dv2 n).map fun d => n / d).map fun r => k ^ (r - 1) - conF k r).sum = conF k n := by
  have e : (fun r => k ^ (r - 1) - conF k r) = othF k := funext fun r => by unfold conF; omega
  rw [e, perm_sum ((co_perm h).map (othF k))]
  unfold conF
  rw [oth_eq k h]
  omega
theorem pow_sum (k : Int) {n : Nat} (h : 2 ≤ n) : k * conF k n + ((dv2 n).map fun d => lstF k d * k ^ (n / d - 1)).sum = k ^ (n - 1) := by
  have e1 : (1 :: dv2 n).Perm (pds n ++ [n]) := by
    rw [← dvs_eq (by omega)]
    have n1 : (1 :: dv2 n).Nodup := List.nodup_cons.mpr ⟨fun z => by have := (mem_dv2.mp z).1; omega, nodup_dv2 n⟩
    have n2 : (dvs n).Nodup := List.Nodup.sublist List.filter_sublist List.nodup_range
    rw [List.perm_ext_iff_of_nodup n1 n2]
    intro x
    rw [List.mem_cons, mem_dv2, mem_dvs]
    constructor
    · rintro (rfl | ⟨a, b, c⟩)
      · exact ⟨by omega, by omega, Nat.mod_one n⟩
      · exact ⟨b, by omega, c⟩
    · rintro ⟨a, b, c⟩
      by_cases z : x = 1
      · exact .inl z
      · exact .inr ⟨by omega, a, c⟩
  have e2 := perm_sum (e1.map fun d => lstF k d * k ^ (n / d - 1))
  rw [List.map_cons, List.sum_cons, lst_one, Int.zero_mul, Int.zero_add, List.map_append, List.sum_append, List.map_cons, List.map_nil, List.sum_cons, List.sum_nil, Nat.div_self (by omega), Nat.sub_self, Int.pow_zero, Int.mul_one, Int.add_zero] at e2
  rw [e2, lst_eq k h]
  unfold conF
  omega
end Rn


namespace Rn
open PySem PySem.Spec PyProof.Rows L2
/-! ## the text -/
def topS (i : Nat) : Stmt := PySem.Challenge.pw_retrynest_k34_whole_numbers_of_unsplitta.main.body.getD i (.Pass ⟨0, 0, 0, 0⟩)
abbrev s_number_power : Stmt := topS 4
abbrev s_divisors : Stmt := topS 6
abbrev s_count_lists : Stmt := topS 7
abbrev s_count_unsplittable : Stmt := topS 8
abbrev s_law_bag : Stmt := topS 10
abbrev s_law_draw : Stmt := topS 11
abbrev s_law_power : Stmt := topS 12
abbrev s_law_by_primes : Stmt := topS 13
abbrev s_law_by_square : Stmt := topS 14
abbrev s_law_by_cube : Stmt := topS 15
abbrev s_law_all : Stmt := topS 16
abbrev s_law : Stmt := topS 17
theorem sc_number_power : FnScope ["number", "times", "product", "_"] ["number", "times"] (defScope s_number_power) := ⟨rfl, rfl, rfl, by decide +kernel, rfl, by decide +kernel, by decide +kernel⟩
theorem sc_divisors : FnScope ["number", "part"] ["number"] (defScope s_divisors) := ⟨rfl, rfl, rfl, by decide +kernel, rfl, by decide +kernel, by decide +kernel⟩
theorem sc_count_lists : FnScope ["numbers", "kinds", "policies", "others", "lists", "number", "parts", "constant_first", "list_first", "count", "part"] ["numbers", "kinds"] (defScope s_count_lists) := ⟨rfl, rfl, rfl, by decide +kernel, rfl, by decide +kernel, by decide +kernel⟩
theorem sc_count_unsplittable : FnScope ["attempts", "kinds", "numbers", "constant"] ["attempts", "kinds"] (defScope s_count_unsplittable) := ⟨rfl, rfl, rfl, by decide +kernel, rfl, by decide +kernel, by decide +kernel⟩
theorem sc_law_bag : FnScope ["script", "fold", "great", "cell"] ["script"] (defScope s_law_bag) := ⟨rfl, rfl, rfl, by decide +kernel, rfl, by decide +kernel, by decide +kernel⟩
theorem sc_law_draw : FnScope ["bag", "many", "drawn", "turn", "mixed"] ["bag", "many"] (defScope s_law_draw) := ⟨rfl, rfl, rfl, by decide +kernel, rfl, by decide +kernel, by decide +kernel⟩
theorem sc_law_power : FnScope ["base", "number", "found", "index"] ["base", "number"] (defScope s_law_power) := ⟨rfl, rfl, rfl, by decide +kernel, rfl, by decide +kernel, by decide +kernel⟩
theorem sc_law_by_primes : FnScope ["one", "two", "many"] ["one", "two", "many"] (defScope s_law_by_primes) := ⟨rfl, rfl, rfl, by decide +kernel, rfl, by decide +kernel, by decide +kernel⟩
theorem sc_law_by_square : FnScope ["one", "many"] ["one", "many"] (defScope s_law_by_square) := ⟨rfl, rfl, rfl, by decide +kernel, rfl, by decide +kernel, by decide +kernel⟩
theorem sc_law_by_cube : FnScope ["one", "many", "both"] ["one", "many"] (defScope s_law_by_cube) := ⟨rfl, rfl, rfl, by decide +kernel, rfl, by decide +kernel, by decide +kernel⟩
theorem sc_law_all : FnScope ["told", "size", "many", "all_now", "constant_now", "number", "parts", "rests", "found", "part", "short", "mine", "rest", "other"] ["told", "size", "many"] (defScope s_law_all) := ⟨rfl, rfl, rfl, by decide +kernel, rfl, by decide +kernel, by decide +kernel⟩
theorem sc_law : FnScope ["script", "bag", "turn", "many", "prime", "few", "one", "two", "due", "rich", "size", "numbers", "told", "number"] ["script"] (defScope s_law) := ⟨rfl, rfl, rfl, by decide +kernel, rfl, by decide +kernel, by decide +kernel⟩
/-! ## what the top has written -/
structure Txt (K : PySem.W.Frag) (mg : Str → Option Value) where
  f_number_power : Addr
  d_number_power : FuncData
  F_number_power : Fun K "number_power" "number_power" s_number_power f_number_power d_number_power
  g_number_power : mg "number_power" = some (.ref f_number_power)
  b_number_power : Binds K d_number_power ["number", "times"] []
  f_divisors : Addr
  d_divisors : FuncData
  F_divisors : Fun K "divisors" "divisors" s_divisors f_divisors d_divisors
  g_divisors : mg "divisors" = some (.ref f_divisors)
  b_divisors : Binds K d_divisors ["number"] []
  f_count_lists : Addr
  d_count_lists : FuncData
  F_count_lists : Fun K "count_lists" "count_lists" s_count_lists f_count_lists d_count_lists
  g_count_lists : mg "count_lists" = some (.ref f_count_lists)
  b_count_lists : Binds K d_count_lists ["numbers", "kinds"] []
  f_count_unsplittable : Addr
  d_count_unsplittable : FuncData
  F_count_unsplittable : Fun K "count_unsplittable" "count_unsplittable" s_count_unsplittable f_count_unsplittable d_count_unsplittable
  g_count_unsplittable : mg "count_unsplittable" = some (.ref f_count_unsplittable)
  b_count_unsplittable : Binds K d_count_unsplittable ["attempts", "kinds"] []
  f_law_bag : Addr
  d_law_bag : FuncData
  F_law_bag : Fun K "_law_bag" "_law_bag" s_law_bag f_law_bag d_law_bag
  g_law_bag : mg "_law_bag" = some (.ref f_law_bag)
  b_law_bag : Binds K d_law_bag ["script"] []
  f_law_draw : Addr
  d_law_draw : FuncData
  F_law_draw : Fun K "_law_draw" "_law_draw" s_law_draw f_law_draw d_law_draw
  g_law_draw : mg "_law_draw" = some (.ref f_law_draw)
  b_law_draw : Binds K d_law_draw ["bag", "many"] []
  f_law_power : Addr
  d_law_power : FuncData
  F_law_power : Fun K "_law_power" "_law_power" s_law_power f_law_power d_law_power
  g_law_power : mg "_law_power" = some (.ref f_law_power)
  b_law_power : Binds K d_law_power ["base", "number"] []
  f_law_by_primes : Addr
  d_law_by_primes : FuncData
  F_law_by_primes : Fun K "_law_by_primes" "_law_by_primes" s_law_by_primes f_law_by_primes d_law_by_primes
  g_law_by_primes : mg "_law_by_primes" = some (.ref f_law_by_primes)
  b_law_by_primes : Binds K d_law_by_primes ["one", "two", "many"] []
  f_law_by_square : Addr
  d_law_by_square : FuncData
  F_law_by_square : Fun K "_law_by_square" "_law_by_square" s_law_by_square f_law_by_square d_law_by_square
  g_law_by_square : mg "_law_by_square" = some (.ref f_law_by_square)
  b_law_by_square : Binds K d_law_by_square ["one", "many"] []
  f_law_by_cube : Addr
  d_law_by_cube : FuncData
  F_law_by_cube : Fun K "_law_by_cube" "_law_by_cube" s_law_by_cube f_law_by_cube d_law_by_cube
  g_law_by_cube : mg "_law_by_cube" = some (.ref f_law_by_cube)
  b_law_by_cube : Binds K d_law_by_cube ["one", "many"] []
  f_law_all : Addr
  d_law_all : FuncData
  F_law_all : Fun K "_law_all" "_law_all" s_law_all f_law_all d_law_all
  g_law_all : mg "_law_all" = some (.ref f_law_all)
  b_law_all : Binds K d_law_all ["told", "size", "many"] []
  f_law : Addr
  d_law : FuncData
  F_law : Fun K "law" "law" s_law f_law d_law
  g_law : mg "law" = some (.ref f_law)
  b_law : Binds K d_law ["script"] []
  m_abs : mg "abs" = none
  m_dict : mg "dict" = none
  m_int : mg "int" = none
  m_len : mg "len" = none
  m_min : mg "min" = none
  m_range : mg "range" = none
  m_sum : mg "sum" = none
end Rn
namespace Rn
open PySem PySem.Spec PyProof.Rows L2
section
variable {P : Program} {w : World} {K : PySem.W.Frag} {mg : Str → Option Value} {base : Heap}
def sp_number_power (K : PySem.W.Frag) : Sp := fun vs H Q _ => ∃ (k : Int) (m e : Nat), vs = [.int k, .int (m : Int)] ∧ k.natAbs ≤ 2 ^ e ∧ 0 < e ∧ e * (m + 2) ≤ 900000 ∧ Q (.int (k ^ m)) H
theorem ok_number_power (T : Txt K mg) : FnOk P w K mg base CX0 1 T.f_number_power T.d_number_power ["number", "times"] (sp_number_power K) := by
  refine T.F_number_power.ok sc_number_power (fun vs H Q E h => ?_) (fun cdv A outer s H vs Q E hr h => ?_)
  · obtain ⟨k, m, e, rfl, _⟩ := h
    rfl
  obtain ⟨k, m, e, rfl, hk, he, hm, q⟩ := h
  refine ⟨_, (pss_cons (ps_set (i := 2) sc_number_power.nd rfl (Or.inl rfl) pe_int)
      (pss_cons (ps_for PassesOwn.never rfl (pi_range1 (by rfl) T.m_range (pa_cons (pv 1) pa_nil)) (pg_name (i := 3) sc_number_power.nd rfl (Or.inl rfl))
      (pss_one (ps_set (i := 2) sc_number_power.nd rfl (Or.inl rfl) (pe_op op_mulW (pv 2) (pv 0)))))
      (pss_one (ps_ret (pv 2))))), ?_⟩
  have hm2 : m + 2 ≤ 900000 := by
    have : 1 * (m + 2) ≤ e * (m + 2) := Nat.mul_le_mul_right _ he
    omega
  refine ⟨_, rfl, _, rfl, by omega, by omega, ?_⟩
  refine for_range (lo := 0) (n := _) (fun i σ H' => (∃ y3, σ = [some (.int k), some (.int (m : Int)), some (.int (k ^ i)), y3]) ∧ H' = H) ⟨⟨none, by rw [Int.pow_zero]; rfl⟩, rfl⟩ (fun i σ H' hi h => ?_) (fun σ H' h => ?_)
  · obtain ⟨⟨y3, rfl⟩, rfl⟩ := h
    have hi' : i < m := by omega
    have h1 : e * (i + 1) + (e + 1) ≤ e * (m + 2) + 1 := by
      have : e * (i + 2) ≤ e * (m + 2) := Nat.mul_le_mul_left _ (by omega)
      rw [Nat.mul_add] at *
      omega
    have p1 : (k ^ i).natAbs < 2 ^ (e * (i + 1)) := by
      rw [Int.natAbs_pow]
      refine Nat.lt_of_le_of_lt (Nat.pow_le_pow_left hk i) ?_
      rw [← Nat.pow_mul]
      exact Nat.pow_lt_pow_right (by decide) (Nat.mul_lt_mul_of_pos_left (by omega) he)
    have p2 : k.natAbs < 2 ^ (e + 1) := Nat.lt_of_le_of_lt hk (Nat.pow_lt_pow_right (by decide) (by omega))
    refine ⟨_, rfl, _, rfl, _, _, rfl, rfl, wide_mul p1 p2 (Nat.mul_pos he (by omega)) (by omega) (by omega), ⟨some (.int (0 + (i : Int))), by rw [Int.pow_succ]; rfl⟩, rfl⟩
  · obtain ⟨⟨y3, rfl⟩, rfl⟩ := h
    refine ⟨_, rfl, ?_⟩
    rw [show ((m : Int)).toNat = m from Int.toNat_natCast m]
    exact q

end
end Rn
namespace Rn
open PySem PySem.Spec PyProof.Rows L2
section
variable {P : Program} {w : World} {K : PySem.W.Frag} {mg : Str → Option Value} {base : Heap}
def dvTo (n i : Nat) : List Nat := (List.range (i + 1)).filter fun d => decide (1 ≤ d) && decide (n % d = 0)
theorem dvTo_succ (n i : Nat) : dvTo n (i + 1) = if n % (i + 1) = 0 then dvTo n i ++ [i + 1] else dvTo n i := by
  unfold dvTo
  rw [List.range_succ, List.filter_append, List.filter_cons, List.filter_nil]
  by_cases h : n % (i + 1) = 0
  · rw [if_pos h, if_pos (by rw [decide_eq_true h, decide_eq_true (by omega)]; rfl)]
  · rw [if_neg h, if_neg (by rw [decide_eq_false h, Bool.and_false]; exact Bool.false_ne_true), List.append_nil]
theorem dvTo_len (n i : Nat) : (dvTo n i).length ≤ i + 1 := by
  unfold dvTo
  refine Nat.le_trans (List.length_filter_le _ _) ?_
  rw [List.length_range]
  exact Nat.le_refl _
def sp_divisors (K : PySem.W.Frag) : Sp := fun vs H Q _ => ∃ (n : Nat), vs = [.int (n : Int)] ∧ 1 ≤ n ∧ n ≤ 10000 ∧ ∀ H' p, Same H H' → H p = none → H' p = some (.lst ((cI (dvs n)).map V.int)) → Q (.ref p) H'
theorem ok_divisors (T : Txt K mg) : FnOk P w K mg base CX0 1 T.f_divisors T.d_divisors ["number"] (sp_divisors K) := by
  refine T.F_divisors.ok sc_divisors (fun vs H Q E h => ?_) (fun cdv A outer s H vs Q E hr h => ?_)
  · obtain ⟨n, rfl, _⟩ := h
    rfl
  obtain ⟨n, rfl, h1, h2, q⟩ := h
  refine ⟨_, (pss_one (ps_ret (pe_lc (own := [("part", 1)]) (g := gName 1)  rfl sc_divisors.nd (pi_range2 (by rfl) T.m_range (pa_cons pe_int (pa_cons (pe_op op_add (pv 0) pe_int) pa_nil))) (blkOk_by (N := ["number", "part"]) (sc := defScope s_divisors) (by decide +kernel)) (fun _ _ _ _ _ => (pg_name (i := 1) sc_divisors.nd rfl (Or.inl rfl))) (fun _ _ _ _ _ => (pts_one (pt_cmpR op_eq (pe_op op_mod (pv 0) (pv 1)) pe_int (nomark _)))) (fun _ _ _ _ _ => (pv 1))))), ?_⟩
  refine ⟨_, rfl, _, _, rfl, rfl, _, _, rfl, ⟨by decide, by decide, by omega, by omega⟩, fun D hD => ?_⟩
  refine lc_range (lo := 1) (n := _) (fun i H' => Same H H' ∧ H' D = some (.lst ((cI (dvTo n i)).map V.int))) ⟨same_new hD, upd_same⟩ (fun i H2 hi h => ?_) (fun H2 h => ?_)
  · obtain ⟨sm, hd⟩ := h
    refine ⟨rfl, _, rfl, _, rfl, _, _, rfl, rfl, by omega, rfl, _, rfl, ?_⟩
    have em : (n : Int) % (1 + (i : Int)) = ((n % (i + 1) : Nat) : Int) := by
      rw [show (1 + (i : Int)) = ((i + 1 : Nat) : Int) by omega]
      exact (Int.natCast_emod n (i + 1)).symm
    refine ite2 (fun e => ?_) (fun e => ?_)
    · have e' : n % (i + 1) = 0 := by
        have := of_decide_eq_true e
        injection this with this
        rw [em] at this
        omega
      refine ⟨_, rfl, _, hd, size_lt (by have := dvTo_len n i; unfold cI; rw [List.length_map, List.length_map]; omega), same_keep sm hD, ?_⟩
      rw [upd_same, dvTo_succ, if_pos e']
      unfold cI
      rw [List.map_append, List.map_append]
      rw [show (1 + (i : Int)) = ((i + 1 : Nat) : Int) by omega]
      rfl
    · have e' : ¬ n % (i + 1) = 0 := fun z => e (decide_eq_true (by show V.int ((n : Int) % (1 + (i : Int))) = V.int 0; rw [em, z]; rfl))
      refine ⟨sm, ?_⟩
      rw [dvTo_succ, if_neg e']
      exact hd
  · obtain ⟨sm, hd⟩ := h
    refine q H2 D sm hD ?_
    rw [hd, show ((n : Int) + 1 - 1).toNat = n by omega]
    rfl

end
end Rn
namespace Rn
open PySem PySem.Spec PyProof.Rows L2
section
variable {P : Program} {w : World} {K : PySem.W.Frag} {mg : Str → Option Value} {base : Heap}
def sp_count_lists (K : PySem.W.Frag) : Sp := fun vs H Q _ => ∃ (a : Addr) (n : Nat) (k : Int), vs = [.ref a, .int k] ∧ H a = some (.lst ((cI (dvs n)).map V.int)) ∧ 1 ≤ n ∧ n ≤ 200 ∧ 1 ≤ k ∧ k ≤ 100 ∧
  ∀ H' o kvs, Same H H' → H o = none → H' o = some (.dK kvs) → Tab kvs (dvs n) (lstF k) → Q (.ref o) H'
theorem ok_count_lists (T : Txt K mg) : FnOk P w K mg base CX0 2 T.f_count_lists T.d_count_lists ["numbers", "kinds"] (sp_count_lists K) := by
  have G_number_power := ok_number_power (P := P) (w := w) (base := base) T
  refine T.F_count_lists.ok sc_count_lists (fun vs H Q E h => ?_) (fun cdv A outer s H vs Q E hr h => ?_)
  · obtain ⟨a, n, k, rfl, _⟩ := h
    rfl
  obtain ⟨a, n, k, rfl, ha, n1, n2, k1, k2, q⟩ := h
  refine ⟨_, (pss_cons (ps_set (i := 2) sc_count_lists.nd rfl (Or.inr rfl) (pe_dc (own := [("count", 9)]) (g := gName 9) (tt := tYes) rfl sc_count_lists.nd (pi_list (pv 0)) (blkOk_by (N := ["numbers", "kinds", "policies", "others", "lists", "number", "parts", "constant_first", "list_first", "count", "part"]) (sc := defScope s_count_lists) (by decide +kernel)) (fun _ _ _ _ _ => (pg_name (i := 9) sc_count_lists.nd rfl (Or.inl rfl))) (fun _ _ _ _ _ => pts_nil) (fun _ _ _ _ _ => (pv 9)) (fun _ _ _ _ _ => (pe_call G_number_power hr (by rfl) T.g_number_power T.F_number_power.kp T.b_number_power .nil pass0 (pa_cons (pv 1) (pa_cons (pe_op op_sub (pv 9) pe_int) pa_nil))))))
      (pss_cons (ps_set (i := 3) sc_count_lists.nd rfl (Or.inr rfl) (pe_disp (pps_cons pe_int pe_int pps_nil) (by rfl) (by rfl) (fun z => by cases z) (by decide)))
      (pss_cons (ps_set (i := 4) sc_count_lists.nd rfl (Or.inr rfl) (pe_disp (pps_cons pe_int pe_int pps_nil) (by rfl) (by rfl) (fun z => by cases z) (by decide)))
      (pss_cons (ps_for PassesOwn.never rfl (pi_list (pe_slice sl_list (pv 0) (po_some pe_int) po_none)) (pg_name (i := 5) sc_count_lists.nd rfl (Or.inr rfl))
      (pss_cons (ps_setLc (i := 6) (own := [("part", 10)]) (g := gName 10)  rfl sc_count_lists.nd rfl rfl (sw_true rfl rfl rfl (by decide +kernel)) (pi_list (pv 0)) (blkOk_by (N := ["numbers", "kinds", "policies", "others", "lists", "number", "parts", "constant_first", "list_first", "count", "part"]) (sc := defScope s_count_lists) (by decide +kernel)) (fun _ _ _ _ _ => (pg_name (i := 10) sc_count_lists.nd rfl (Or.inl rfl))) (fun _ _ _ _ _ => (pts_one (PW.pt (pw_and (pt_cmpR op_lt (pv 10) (pv 5) (nomark _)) (pw_and1 (pt_cmpR op_eq (pe_op op_mod (pv 5) (pv 10)) pe_int (nomark _))))))) (fun _ _ _ _ _ => (pv 10)))
      (pss_cons (ps_asg (pe_op op_sub (pe_dget (units1 hr.units) (pv 2) (pv 5) (fun _ _ => rfl)) (pe_callB (cr_sum rfl) (by rfl) T.m_sum (by decide +kernel) (pa_cons (pe_lc (own := [("part", 10)]) (g := gName 10) (tt := tYes) rfl sc_count_lists.nd (pi_list (pv 6)) (blkOk_by (N := ["numbers", "kinds", "policies", "others", "lists", "number", "parts", "constant_first", "list_first", "count", "part"]) (sc := defScope s_count_lists) (by decide +kernel)) (fun _ _ _ _ _ => (pg_name (i := 10) sc_count_lists.nd rfl (Or.inl rfl))) (fun _ _ _ _ _ => pts_nil) (fun _ _ _ _ _ => (pe_dget (units1 hr.units) (pv 3) (pv 10) (fun _ _ => rfl)))) pa_nil))) (pg_sub (pv 3) (pv 5) (set_dict (units1 hr.units))))
      (pss_cons (ps_set (i := 7) sc_count_lists.nd rfl (Or.inl rfl) (pe_op op_mul (pv 1) (pe_op op_sub (pe_dget (units1 hr.units) (pv 2) (pv 5) (fun _ _ => rfl)) (pe_dget (units1 hr.units) (pv 3) (pv 5) (fun _ _ => rfl)))))
      (pss_cons (ps_set (i := 8) sc_count_lists.nd rfl (Or.inl rfl) (pe_callB (cr_sum rfl) (by rfl) T.m_sum (by decide +kernel) (pa_cons (pe_lc (own := [("part", 10)]) (g := gName 10) (tt := tYes) rfl sc_count_lists.nd (pi_list (pv 6)) (blkOk_by (N := ["numbers", "kinds", "policies", "others", "lists", "number", "parts", "constant_first", "list_first", "count", "part"]) (sc := defScope s_count_lists) (by decide +kernel)) (fun _ _ _ _ _ => (pg_name (i := 10) sc_count_lists.nd rfl (Or.inl rfl))) (fun _ _ _ _ _ => pts_nil) (fun _ _ _ _ _ => (pe_op op_mulW (pe_dget (units1 hr.units) (pv 4) (pv 10) (fun _ _ => rfl)) (pe_dget (units1 hr.units) (pv 2) (pe_op op_fdivW (pv 5) (pv 10)) (fun _ _ => rfl))))) pa_nil)))
      (pss_one (ps_asg (pe_op op_sub (pe_op op_sub (pe_dget (units1 hr.units) (pv 2) (pv 5) (fun _ _ => rfl)) (pv 7)) (pv 8)) (pg_sub (pv 4) (pv 5) (set_dict (units1 hr.units))))))))))
      (pss_one (ps_ret (pv 4))))))), ?_⟩
  have kabs : k.natAbs ≤ 2 ^ 7 := by omega
  have hlen := dvs_len n
  -- policies
  refine ⟨_, rfl, a, rfl, ⟨_, sql ha⟩, fun p hp => ?_⟩
  refine dc_list (xs := (cI (dvs n)).map V.int) (fun i H' => ∃ kvs, Same H H' ∧ H' p = some (.dK kvs) ∧ kvs.length ≤ i ∧ Tab kvs ((dvs n).take i) fun d => k ^ (d - 1))
    ⟨[], same_new hp, upd_same, Nat.le_refl _, (fun _ z => nomatch z)⟩ (fun i H' _ h => by obtain ⟨_, sm, _⟩ := h; exact sql (sm _ _ ha)) (fun i x H' hx h => ?_) (fun H1 h => ?_)
  · obtain ⟨kvs, sm, hd, hl, tab⟩ := h
    obtain ⟨d, hd', rfl⟩ := cI_get hx
    have hi : i < (dvs n).length := (List.getElem?_eq_some_iff.mp hd').1
    obtain ⟨d1, d2, d3⟩ := mem_dvs.mp (List.mem_of_getElem? hd')
    refine ⟨rfl, yes_thn ⟨_, rfl, _, rfl, _, rfl, _, _, rfl, rfl, k, d - 1, 7, ?_, kabs, by decide, by omega, kvs, Sum.inl (d : Int), rfl, hd, size_lt (by omega), putK kvs (Sum.inl (d : Int)) (.int (k ^ (d - 1))), same_keep sm hp, upd_same, Nat.le_trans (length_putK _ _ _) (Nat.succ_le_succ hl), ?_⟩⟩
    · rw [show ((d - 1 : Nat) : Int) = (d : Int) - 1 by omega]
      rfl
    · rw [List.take_add_one, hd']
      exact tab.put
  obtain ⟨kvP, s1, eP, lP, tabP⟩ := h
  rw [cI_len, List.take_length] at tabP
  -- others, lists
  obtain ⟨rs, ers⟩ := dvs_one n1
  refine fun o ho => ⟨upd_same, [(Sum.inl 1, .int 1)], rfl, by decide, ?_⟩
  have so := same_keep (o := .dK [(Sum.inl 1, .int 1)]) (same_new (o := .dK []) ho) ho
  have eo := upd_same (H := upd H1 o (.dK [])) (a := o) (o := .dK [(Sum.inl 1, .int 1)])
  change tSeq _ _ _ _ (upd (upd H1 o (.dK [])) o (.dK [(Sum.inl 1, .int 1)]))
  generalize upd (upd H1 o (.dK [])) o (.dK [(Sum.inl 1, .int 1)]) = H2 at *
  refine fun l hl => ⟨upd_same, [(Sum.inl 1, .int 0)], rfl, by decide, ?_⟩
  have sl := same_keep (o := .dK [(Sum.inl 1, .int 0)]) (same_new (o := .dK []) hl) hl
  have el := upd_same (H := upd H2 l (.dK [])) (a := l) (o := .dK [(Sum.inl 1, .int 0)])
  change tSeq _ _ _ _ (upd (upd H2 l (.dK [])) l (.dK [(Sum.inl 1, .int 0)]))
  have eo2 := sl _ _ eo
  have nol : o ≠ l := fun z => by rw [z, hl] at eo; cases eo
  generalize upd (upd H2 l (.dK [])) l (.dK [(Sum.inl 1, .int 0)]) = H3 at *
  have s3 := so.trans sl
  have lH1 : H1 l = none := so.free hl
  have a3 := s3 _ _ (s1 _ _ ha)
  -- numbers[1:]
  refine ⟨_, rfl, _, rfl, a, _, rfl, sql a3, fun b hb => ?_⟩
  have sb := same_new (o := .lst (cutV ((cI (dvs n)).map V.int) (some 1) none)) hb
  have eb := upd_same (H := H3) (a := b) (o := .lst (cutV ((cI (dvs n)).map V.int) (some 1) none))
  generalize upd H3 b (.lst (cutV ((cI (dvs n)).map V.int) (some 1) none)) = H4 at *
  have ecut : cutV ((cI (dvs n)).map V.int) (some 1) none = (cI rs).map V.int := by
    rw [show ((1 : Int)) = ((1 : Nat) : Int) from rfl, cut_to, ers]
    rfl
  rw [ecut] at eb
  have s4 := s3.trans sb
  have pne : ∀ {H'}, Same H4 H' → H' p = some (.dK kvP) := fun {H'} s => s _ _ (s4 _ _ eP)
  have lrs : rs.length < n + 1 := by rw [ers, List.length_cons] at hlen; omega
  refine ⟨b, rfl, ⟨_, sql eb⟩, for_list (xs := (cI rs).map V.int) (fun i σ H' => (∃ y5 y6 y7 y8 y9 y10, σ = [some (.ref a), some (.int k), some (.ref p), some (.ref o), some (.ref l), y5, y6, y7, y8, y9, y10]) ∧ Same H1 H' ∧ H' b = some (.lst ((cI rs).map V.int)) ∧
      (∃ kvO, H' o = some (.dK kvO) ∧ kvO.length ≤ i + 1 ∧ Tab kvO ((dvs n).take (i + 1)) (othF k)) ∧ (∃ kvL, H' l = some (.dK kvL) ∧ kvL.length ≤ i + 1 ∧ Tab kvL ((dvs n).take (i + 1)) (lstF k)))
    ⟨⟨_, _, _, _, _, _, rfl⟩, s4, eb, ⟨_, sb _ _ eo2, Nat.le_refl _, fun d hd => ?_⟩, ⟨_, sb _ _ el, Nat.le_refl _, fun d hd => ?_⟩⟩ (fun i σ H' _ h => sql h.2.2.1) (fun i x σ H5 hx h => ?_) (fun σ H5 h => ?_)⟩
  · rw [ers] at hd
    rw [List.mem_singleton.mp hd, oth_one]
    rfl
  · rw [ers] at hd
    rw [List.mem_singleton.mp hd]
    rfl
  · obtain ⟨⟨y5, y6, y7, y8, y9, y10, rfl⟩, sm, hb5, ⟨kvO, hO, lO, tO⟩, ⟨kvL, hL, lL, tL⟩⟩ := h
    obtain ⟨m, hm, rfl⟩ := cI_get hx
    have hi : i < rs.length := (List.getElem?_eq_some_iff.mp hm).1
    have hmd : (dvs n)[i + 1]? = some m := by rw [ers]; exact hm
    have mmem := List.mem_of_getElem? hmd
    obtain ⟨m1, m2, m3⟩ := mem_dvs.mp mmem
    have mge : 2 ≤ m := by
      rcases Nat.lt_or_ge m 2 with z | z
      · exfalso
        have em : m = 1 := by omega
        subst em
        have nd : (dvs n).Nodup := List.Nodup.sublist List.filter_sublist List.nodup_range
        rw [ers] at nd hmd
        exact (List.nodup_cons.mp nd).1 (List.mem_of_getElem? hm)
      · exact z
    have ne_ob : o ≠ b := fun z => by rw [z, hb5] at hO; cases hO
    have ne_lb : l ≠ b := fun z => by rw [z, hb5] at hL; cases hL
    -- parts
    have hpre : ∀ d, d ∈ pds m → d ∈ (dvs n).take (i + 1) := fun d hd => by
      rw [← dvs_pds mmem, List.mem_filter, Bool.and_eq_true, decide_eq_true_eq] at hd
      obtain ⟨z1, z2, _⟩ := hd
      have srt : (dvs n).Pairwise (· < ·) := List.Pairwise.sublist List.filter_sublist List.pairwise_lt_range
      obtain ⟨j, hj, e⟩ := List.getElem_of_mem z1
      have hji : j < i + 1 := by
        rcases Nat.lt_or_ge j (i + 1) with y | y
        · exact y
        · exfalso
          obtain ⟨hi1, e1⟩ := List.getElem?_eq_some_iff.mp hmd
          rcases Nat.lt_or_eq_of_le y with w1 | w1
          · have := (List.pairwise_iff_getElem.mp srt) (i + 1) j hi1 hj w1
            rw [e, e1] at this
            omega
          · subst w1
            rw [e1] at e
            omega
      exact List.mem_of_getElem? (i := j) (by rw [List.getElem?_take, if_pos hji, List.getElem?_eq_getElem hj, e])
    refine ⟨_, rfl, a, rfl, ⟨_, sql (sm _ _ (s1 _ _ ha))⟩, fun D hD => ?_⟩
    refine lc_list (xs := (cI (dvs n)).map V.int) (fun j H' => Same H5 H' ∧ H' D = some (.lst ((cI (((dvs n).take j).filter fun d => decide (d < m) && decide (m % d = 0))).map V.int)))
      ⟨same_new hD, upd_same⟩ (fun j H' _ h => sql (h.1 _ _ (sm _ _ (s1 _ _ ha)))) (fun j x H6 hx6 h => ?_) (fun H6 h => ?_)
    · obtain ⟨s6, hd6⟩ := h
      obtain ⟨d, hd, rfl⟩ := cI_get hx6
      have hj : j < (dvs n).length := (List.getElem?_eq_some_iff.mp hd).1
      obtain ⟨d1, d2, d3⟩ := mem_dvs.mp (List.mem_of_getElem? hd)
      have tk : (dvs n).take (j + 1) = (dvs n).take j ++ [d] := by rw [List.take_add_one, hd]; rfl
      have em : (m : Int) % (d : Int) = ((m % d : Nat) : Int) := (Int.natCast_emod m d).symm
      rw [tk, List.filter_append, List.filter_cons, List.filter_nil]
      refine ⟨rfl, _, rfl, _, rfl, _, _, rfl, rfl, _, rfl, ?_⟩
      refine ite2 (fun e => ?_) (fun e => ?_)
      · have e1 : d < m := by have := of_decide_eq_true e; omega
        refine ⟨_, rfl, _, rfl, _, _, rfl, rfl, by omega, rfl, _, rfl, ite2 (fun e2 => ?_) (fun e2 => ?_)⟩
        · have e3 : m % d = 0 := by
            have := of_decide_eq_true e2
            injection this with this
            rw [em] at this
            omega
          rw [if_pos (by rw [decide_eq_true e1, decide_eq_true e3]; rfl)]
          refine ⟨_, rfl, _, hd6, size_lt (by rw [cI_len]; have := List.length_filter_le (fun d => decide (d < m) && decide (m % d = 0)) ((dvs n).take j); rw [List.length_take] at this; omega), same_keep s6 hD, ?_⟩
          rw [upd_same]
          unfold cI
          rw [List.map_append, List.map_append]
          rfl
        · have e3 : ¬ m % d = 0 := fun z => e2 (decide_eq_true (by show V.int ((m : Int) % (d : Int)) = V.int 0; rw [em, z]; rfl))
          rw [if_neg (by rw [decide_eq_false e3, Bool.and_false]; exact Bool.false_ne_true), List.append_nil]
          exact ⟨s6, hd6⟩
      · have e1 : ¬ d < m := fun z => e (decide_eq_true (by omega))
        rw [if_neg (by rw [decide_eq_false e1]; exact Bool.false_ne_true), List.append_nil]
        exact ⟨s6, hd6⟩
    obtain ⟨s6, hd6⟩ := h
    rw [cI_len, List.take_length, dvs_pds mmem] at hd6
    have lpd := pds_len m
    have e6 : ∀ {H'}, Same H6 H' → H' p = some (.dK kvP) := fun {H'} s => s _ _ (s6 _ _ (sm _ _ eP))
    have mk := fun d (hd : d ∈ pds m) => hpre d hd
    have pall : ∀ d, d ∈ pds m → d ∈ dvs n := fun d hd => List.mem_of_mem_take (hpre d hd)
    have tkm : (dvs n).take (i + 1 + 1) = (dvs n).take (i + 1) ++ [m] := by rw [List.take_add_one, hmd]; rfl
    -- others[number]
    refine ⟨_, rfl, _, rfl, p, _, rfl, tabP.get (e6 (Same.refl _)) mmem, _, rfl, D, rfl, ⟨_, sql hd6⟩, fun E2 hE2 => ?_⟩
    refine lc_list (xs := (cI (pds m)).map V.int) (fun j H' => Same H6 H' ∧ H' E2 = some (.lst ((((pds m).take j).map (othF k)).map V.int)))
      ⟨same_new hE2, upd_same⟩ (fun j H' _ h => sql (h.1 _ _ hd6)) (fun j x H7 hx7 h => ?_) (fun H7 h => ?_)
    · obtain ⟨s7, hd7⟩ := h
      obtain ⟨d, hd, rfl⟩ := cI_get hx7
      have hj : j < (pds m).length := (List.getElem?_eq_some_iff.mp hd).1
      refine ⟨rfl, yes_thn ⟨_, rfl, _, rfl, o, _, rfl, tO.get (s7 _ _ (s6 _ _ hO)) (mk d (List.mem_of_getElem? hd)), _, hd7, size_lt (by rw [List.length_map, List.length_map, List.length_take]; omega), same_keep s7 hE2, ?_⟩⟩
      rw [upd_same, List.take_add_one, hd, Option.toList_some, List.map_append, List.map_append]
      rfl
    obtain ⟨s7, hd7⟩ := h
    rw [cI_len, List.take_length] at hd7
    have hO7 := s7 _ _ (s6 _ _ hO)
    have eO : k ^ (m - 1) - ((pds m).map (othF k)).sum = othF k m := (oth_eq k (by omega)).symm
    have dp : DPut H7 o (.int (m : Int)) (.int (k ^ (m - 1) - ((pds m).map (othF k)).sum)) (upd H7 o (.dK (putK kvO (Sum.inl (m : Int)) (.int (othF k m))))) := by
      rw [eO]
      exact DPut.k (k := Sum.inl (m : Int)) hO7 (size_lt (by omega))
    refine ⟨E2, _, rfl, sql hd7, _, _, rfl, rfl, _, rfl, _, rfl, o, _, rfl, dp, ?_⟩
    have tO8 := tO.put (d := m)
    rw [← tkm] at tO8
    have lO8 := Nat.le_trans (length_putK kvO (Sum.inl (m : Int)) (.int (othF k m))) (Nat.succ_le_succ lO)
    generalize hkO : putK kvO (Sum.inl (m : Int)) (.int (othF k m)) = kvO' at *
    have s8 : Same H1 (upd H7 o (.dK kvO')) := same_keep ((sm.trans s6).trans s7) ho
    have hO8 := upd_same (H := H7) (a := o) (o := .dK kvO')
    have hb8 : upd H7 o (.dK kvO') b = some (.lst ((cI rs).map V.int)) := by rw [upd_ne ne_ob.symm]; exact s7 _ _ (s6 _ _ hb5)
    have hL8 : upd H7 o (.dK kvO') l = some (.dK kvL) := by rw [upd_ne nol.symm]; exact s7 _ _ (s6 _ _ hL)
    have noD : D ≠ o := fun z => by rw [z] at hd6; rw [s6 _ _ hO] at hd6; cases hd6
    have hD8 : upd H7 o (.dK kvO') D = some (.lst ((cI (pds m)).map V.int)) := by rw [upd_ne noD]; exact s7 _ _ hd6
    generalize upd H7 o (.dK kvO') = H8 at *
    have p8 : H8 p = some (.dK kvP) := s8 _ _ eP
    -- constant_first
    refine ⟨_, rfl, _, rfl, _, rfl, p, _, rfl, tabP.get p8 mmem, _, rfl, _, rfl, o, _, rfl, tO8.get hO8 (by rw [tkm]; exact List.mem_append_right _ List.mem_cons_self), _, _, rfl, rfl, _, _, rfl, rfl, .inl ⟨by omega, by omega⟩, ?_⟩
    -- list_first
    refine ⟨_, rfl, D, rfl, ⟨_, sql hD8⟩, fun E3 hE3 => ?_⟩
    refine lc_list (xs := (cI (pds m)).map V.int) (fun j H' => Same H8 H' ∧ H' E3 = some (.lst ((((pds m).take j).map fun d => lstF k d * k ^ (m / d - 1)).map V.int)))
      ⟨same_new hE3, upd_same⟩ (fun j H' _ h => sql (h.1 _ _ hD8)) (fun j x H9 hx9 h => ?_) (fun H9 h => ?_)
    · obtain ⟨s9, hd9⟩ := h
      obtain ⟨d, hd, rfl⟩ := cI_get hx9
      have hj : j < (pds m).length := (List.getElem?_eq_some_iff.mp hd).1
      have dm := List.mem_of_getElem? hd
      obtain ⟨d1, d2, d3⟩ := mem_pds.mp dm
      obtain ⟨q1, q2, q3⟩ := prop_div dm
      have qmem : m / d ∈ dvs n := mem_dvs.mpr ⟨by omega, q3, Nat.mod_eq_zero_of_dvd (Nat.dvd_trans ⟨d, (Nat.div_mul_cancel (Nat.dvd_of_mod_eq_zero d3)).symm⟩ (Nat.dvd_of_mod_eq_zero m3))⟩
      have edv : (m : Int) / (d : Int) = ((m / d : Nat) : Int) := (Int.natCast_ediv m d).symm
      have a1 := lst_abs kabs d d2 (by omega)
      have a2 := pow_abs (n := m / d - 1) kabs
      have b1 : (lstF k d).natAbs < 2 ^ 7000 := Nat.lt_of_le_of_lt a1 (Nat.pow_lt_pow_right (by decide) (by omega))
      have b2 : (k ^ (m / d - 1)).natAbs < 2 ^ 7000 := Nat.lt_of_le_of_lt a2 (Nat.pow_lt_pow_right (by decide) (by omega))
      refine ⟨rfl, yes_thn ⟨_, rfl, _, rfl, l, _, rfl, tL.get (s9 _ _ hL8) (mk d dm), _, rfl, _, rfl, _, rfl, _, _, rfl, rfl, wide_div (b := 20) (by omega) (by omega) (by decide) (by decide), p, .int (k ^ (m / d - 1)), rfl, ?_, _, _, rfl, rfl, wide_mul b1 b2 (by decide) (by decide) (by decide), _, hd9, size_lt (by rw [List.length_map, List.length_map, List.length_take]; omega), same_keep s9 hE3, ?_⟩⟩
      · show DGet H9 p (.int ((m : Int) / (d : Int))) _
        rw [edv]
        exact tabP.get (s9 _ _ p8) qmem
      · rw [upd_same, List.take_add_one, hd, Option.toList_some, List.map_append, List.map_append]
        rfl
    obtain ⟨s9, hd9⟩ := h
    rw [cI_len, List.take_length] at hd9
    refine ⟨E3, _, rfl, sql hd9, ?_⟩
    -- lists[number]
    have hL9 := s9 _ _ hL8
    have eL : k ^ (m - 1) - k * (k ^ (m - 1) - othF k m) - ((pds m).map fun d => lstF k d * k ^ (m / d - 1)).sum = lstF k m := (lst_eq k mge).symm
    have dq : DPut H9 l (.int (m : Int)) (.int (k ^ (m - 1) - k * (k ^ (m - 1) - othF k m) - ((pds m).map fun d => lstF k d * k ^ (m / d - 1)).sum)) (upd H9 l (.dK (putK kvL (Sum.inl (m : Int)) (.int (lstF k m))))) := by
      rw [eL]
      exact DPut.k (k := Sum.inl (m : Int)) hL9 (size_lt (by omega))
    refine ⟨_, rfl, _, rfl, p, _, rfl, tabP.get (s9 _ _ p8) mmem, _, rfl, _, _, rfl, rfl, _, rfl, _, _, rfl, rfl, _, rfl, _, rfl, l, _, rfl, dq, ?_⟩
    have tL8 := tL.put (d := m)
    rw [← tkm] at tL8
    refine ⟨⟨_, _, _, _, _, _, rfl⟩, same_keep (s8.trans s9) lH1, by rw [upd_ne ne_lb.symm]; exact s9 _ _ hb8, ⟨_, by rw [upd_ne nol]; exact s9 _ _ hO8, lO8, tO8⟩, ⟨_, upd_same, Nat.le_trans (length_putK kvL (Sum.inl (m : Int)) (.int (lstF k m))) (Nat.succ_le_succ lL), tL8⟩⟩
  · obtain ⟨⟨y5, y6, y7, y8, y9, y10, rfl⟩, sm, hb5, ⟨kvO, hO, lO, tO⟩, ⟨kvL, hL, lL, tL⟩⟩ := h
    rw [cI_len, show rs.length + 1 = (dvs n).length by rw [ers, List.length_cons], List.take_length] at tL
    exact ⟨_, rfl, q H5 l kvL (s1.trans sm) (s1.free lH1) hL tL⟩

end
end Rn
namespace Rn
open PySem PySem.Spec PyProof.Rows L2
section
variable {P : Program} {w : World} {K : PySem.W.Frag} {mg : Str → Option Value} {base : Heap}
def sp_count_unsplittable (K : PySem.W.Frag) : Sp := fun vs H Q _ => ∃ (m : Nat) (k : Int), vs = [.int (m : Int), .int k] ∧ 1 ≤ m ∧ m ≤ 200 ∧ 1 ≤ k ∧ k ≤ 100 ∧ ∀ H', Same H H' → Q (.int (cntF k m)) H'
theorem ok_count_unsplittable (T : Txt K mg) : FnOk P w K mg base CX0 3 T.f_count_unsplittable T.d_count_unsplittable ["attempts", "kinds"] (sp_count_unsplittable K) := by
  have G_divisors := (ok_divisors (P := P) (w := w) (base := base) T).mono (by decide : 1 ≤ 2)
  have G_count_lists := (ok_count_lists (P := P) (w := w) (base := base) T)
  refine T.F_count_unsplittable.ok sc_count_unsplittable (fun vs H Q E h => ?_) (fun cdv A outer s H vs Q E hr h => ?_)
  · obtain ⟨n, k, rfl, _⟩ := h
    rfl
  obtain ⟨m, k, rfl, n1, hn, k1, hk, q⟩ := h
  refine ⟨_, (pss_cons (ps_if (pt_cmpR op_lt (pv 0) pe_int (nomark _))
      (pss_one ps_never)
      pss_nil)
      (pss_cons (ps_if (pt_cmpR op_lt (pv 1) pe_int (nomark _))
      (pss_one ps_never)
      pss_nil)
      (pss_cons (ps_set (i := 2) sc_count_unsplittable.nd rfl (Or.inl rfl) (pe_call G_divisors hr (by rfl) T.g_divisors T.F_divisors.kp T.b_divisors .nil pass0 (pa_cons (pv 0) pa_nil)))
      (pss_cons (ps_set (i := 3) sc_count_unsplittable.nd rfl (Or.inl rfl) (pe_ifExp (pt_cmpR op_eq (pe_callB call_len_seq (by rfl) T.m_len PySem.boot_len (pa_cons (pv 2) pa_nil)) pe_int (nomark _)) (pv 1) pe_int))
      (pss_one (ps_ret (pe_op op_add (pe_dget (units1 hr.units) (pe_call G_count_lists hr (by rfl) T.g_count_lists T.F_count_lists.kp T.b_count_lists .nil pass0 (pa_cons (pv 2) (pa_cons (pv 1) pa_nil))) (pv 0) (fun _ _ => rfl)) (pv 3)))))))), ?_⟩
  refine ⟨_, rfl, _, _, rfl, rfl, _, rfl, ite2 (fun e => absurd (of_decide_eq_true e) (by omega)) fun _ => ?_⟩
  refine ⟨_, rfl, _, _, rfl, rfl, _, rfl, ite2 (fun e => absurd (of_decide_eq_true e) (by omega)) fun _ => ?_⟩
  refine ⟨_, rfl, m, rfl, by omega, by omega, fun H1 p s1 fp hp => ?_⟩
  refine ⟨_, rfl, p, _, rfl, .inl (sql hp), rfl, _, rfl, ?_⟩
  have fin : ∀ c : Int, c = (if (dvs m).length = 2 then k else 0) → ∀ H2 kvs o, Same H1 H2 → H2 o = some (.dK kvs) → Tab kvs (dvs m) (lstF k) → DGet H2 o (.int (m : Int)) (some (.int (lstF k m))) ∧ Q (.int (lstF k m + c)) H2 := fun c hc H2 kvs o s2 ho tab =>
    ⟨tab.get ho (mem_dvs.mpr ⟨Nat.le_refl _, by omega, Nat.mod_self m⟩), by rw [hc]; exact q H2 (s1.trans s2)⟩
  refine ite2 (fun e3 => ?_) (fun e3 => ?_)
  · have e4 : (dvs m).length = 2 := by
      have := of_decide_eq_true e3
      injection this with this
      rw [cI_len] at this
      omega
    refine ⟨_, rfl, ?_⟩
    refine ⟨_, rfl, _, rfl, p, m, k, rfl, hp, by omega, by omega, k1, hk, fun H2 o kvs s2 fo ho tab => ?_⟩
    obtain ⟨z1, z2⟩ := fin k (by rw [if_pos e4]) H2 kvs o s2 ho tab
    exact ⟨_, rfl, o, _, rfl, z1, _, rfl, _, _, rfl, rfl, z2⟩
  · have e4 : ¬ (dvs m).length = 2 := fun z => e3 (decide_eq_true (by rw [cI_len, z]; rfl))
    refine ⟨_, rfl, _, rfl, p, m, k, rfl, hp, by omega, by omega, k1, hk, fun H2 o kvs s2 fo ho tab => ?_⟩
    obtain ⟨z1, z2⟩ := fin 0 (by rw [if_neg e4]) H2 kvs o s2 ho tab
    exact ⟨_, rfl, o, _, rfl, z1, _, rfl, _, _, rfl, rfl, z2⟩

end
end Rn
namespace Rn
open PySem PySem.Spec PyProof.Rows L2
section
variable {P : Program} {w : World} {K : PySem.W.Frag} {mg : Str → Option Value} {base : Heap}
def sp_law_bag (K : PySem.W.Frag) : Sp := fun vs H Q _ => ∃ (a : Addr) (ns : List Int), vs = [.ref a] ∧ SqL K H a (ns.map V.int) ∧ ns.length ≤ 63 ∧ ∀ H' p g, Same H H' → H p = none → H g = none → Bag H' p g 0 → Q (.ref p) H'
theorem ok_law_bag (T : Txt K mg) : FnOk P w K mg base CX0 1 T.f_law_bag T.d_law_bag ["script"] (sp_law_bag K) := by
  refine T.F_law_bag.ok sc_law_bag (fun vs H Q E h => ?_) (fun cdv A outer s H vs Q E hr h => ?_)
  · obtain ⟨a, ns, rfl, _⟩ := h
    rfl
  obtain ⟨a, ns, rfl, hS, hl, q⟩ := h
  refine ⟨_, (pss_cons (ps_par (i := 1) (j := 2) (by rfl) sc_law_bag.nd rfl rfl (by decide) rfl rfl (pa_cons pe_int (pa_cons (pe_lst pa_nil) pa_nil)) (by rfl))
      (pss_cons (ps_for PassesOwn.never rfl (pi_list (pv 0)) (pg_name (i := 3) sc_law_bag.nd rfl (Or.inl rfl))
      (pss_cons (ps_set (i := 1) sc_law_bag.nd rfl (Or.inl rfl) (pe_op op_mod (pe_op op_add (pe_op op_mul (pv 1) pe_int) (pv 3)) pe_int))
      (pss_one (ps_if (pt_cmpR op_ge (pe_callB call_abs (by rfl) T.m_abs (by decide +kernel) (pa_cons (pv 3) pa_nil)) (pe_op op_pow pe_int pe_int) (nomark _))
      (pss_one (ps_expr (pe_bm PySem.F.plainAttrs_list PySem.F.slot_list_append PySem.F.type_list_append mt_append (pv 2) (pa_cons (pe_callB call_abs (by rfl) T.m_abs (by decide +kernel) (pa_cons (pv 3) pa_nil)) pa_nil))))
      pss_nil))))
      (pss_one (ps_ret (pe_disp (pps_cons pe_str (pv 2) (pps_cons pe_str pe_int (pps_cons pe_str pe_int (pps_cons pe_str (pv 1) pps_nil)))) (by rfl) (by rfl) (fun z => by cases z) (by decide)))))), ?_⟩
  refine ⟨Nat.zero_le _, fun g hg => ?_⟩
  have sg := same_new (o := .lst []) hg
  have eg := upd_same (H := H) (a := g) (o := .lst [])
  generalize upd H g (.lst []) = H1 at *
  refine ⟨_, _, rfl, _, rfl, a, rfl, ⟨_, sg.seq hS⟩, for_list (xs := ns.map V.int) (fun i σ H' => ∃ f ds y3, σ = [some (.ref a), some (.int f), some (.ref g), y3] ∧ 0 ≤ f ∧ f < 2305843009213693951 ∧ Same H H' ∧ H' g = some (.lst ((ds : List Int).map V.int)) ∧ ds.length ≤ i)
    ⟨11, [], none, rfl, by decide, by decide, sg, eg, Nat.le_refl _⟩ (fun i σ H' _ h => by obtain ⟨_, _, _, _, _, _, sm, _⟩ := h; exact sm.seq hS) (fun i x σ H' hx h => ?_) (fun σ H' h => ?_)⟩
  · obtain ⟨f, ds, y3, rfl, f0, f1, sm, hd, hlen⟩ := h
    have hi : i < 63 := by
      have := (List.getElem?_eq_some_iff.mp hx).1
      rw [List.length_map] at this
      omega
    obtain ⟨n, rfl⟩ : ∃ n, x = .int n := by
      rw [List.getElem?_map] at hx
      cases e : ns[i]? with
      | none => rw [e] at hx; cases hx
      | some n => rw [e] at hx; exact ⟨n, (Option.some.inj hx).symm⟩
    have q2 : (0 : Int) < 2305843009213693951 := by decide
    refine ⟨_, rfl, _, _, rfl, rfl, .inl ⟨by omega, by omega⟩, _, rfl, _, _, rfl, rfl, _, _, rfl, rfl, q2, ?_⟩
    have r0 := Int.emod_nonneg (f * 1000003 + n) (show (2305843009213693951 : Int) ≠ 0 by decide)
    have r1 := Int.emod_lt_of_pos (f * 1000003 + n) q2
    refine ⟨_, rfl, _, rfl, _, _, rfl, rfl, ⟨by decide, by decide, by decide⟩, _, _, rfl, rfl, _, rfl, ite2 (fun e => ?_) (fun e => ?_)⟩
    · refine ⟨_, rfl, .inl ⟨rfl, _, sql hd⟩, _, rfl, _, rfl, g, _, _, rfl, rfl, hd, size_lt (by rw [List.length_map]; omega), _, ds ++ [if n < 0 then -n else n], _, rfl, r0, r1, same_keep sm hg, ?_, ?_⟩
      · rw [upd_same, List.map_append]
        rfl
      · rw [List.length_append]
        exact Nat.succ_le_succ hlen
    · exact ⟨_, ds, _, rfl, r0, r1, sm, hd, by omega⟩
  · obtain ⟨f, ds, y3, rfl, f0, f1, sm, hd, hlen⟩ := h
    refine fun p hp => ⟨_, rfl, _, rfl, upd_same, [(Sum.inr "great", .ref g), (Sum.inr "left", .int 0), (Sum.inr "turn", .int 0), (Sum.inr "fold", .int f)], rfl, (by show (4 : Nat) ≤ 15; decide), ?_⟩
    have pg : p ≠ g := fun z => by rw [z, hd] at hp; cases hp
    exact q _ p g (same_keep (sm.trans (same_new hp)) (sm.free hp)) (sm.free hp) hg ⟨0, 0, f, ds, upd_same, by rw [upd_ne pg.symm, upd_ne pg.symm]; exact hd, f0, f1, by decide, by decide⟩

end
end Rn
namespace Rn
open PySem PySem.Spec PyProof.Rows L2
section
variable {P : Program} {w : World} {K : PySem.W.Frag} {mg : Str → Option Value} {base : Heap}
def sp_law_draw (K : PySem.W.Frag) : Sp := fun vs H Q _ => ∃ (a g : Addr) (n many : Int), vs = [.ref a, .int many] ∧ Bag H a g n ∧ n ≤ 1000000000 ∧ 0 < many ∧ many < 2 ^ 100 ∧
  ∀ H' r, Bdv a g 1 H H' → 0 ≤ r → r < many → Q (.int r) H'
theorem ok_law_draw (T : Txt K mg) : FnOk P w K mg base CX0 1 T.f_law_draw T.d_law_draw ["bag", "many"] (sp_law_draw K) := by
  refine T.F_law_draw.ok sc_law_draw (fun vs H Q E h => ?_) (fun cdv A outer s H vs Q E hr h => ?_)
  · obtain ⟨a, g, n, many, rfl, _⟩ := h
    rfl
  obtain ⟨a, g, n, many, rfl, hS, hn, hm0, hm1, q⟩ := h
  refine ⟨_, (Evl.pss_cut (ps_if (PW.pt (pw_and (pt_cmpR op_lt (pe_dget (units1 hr.units) (pv 0) pe_str (fun _ _ => rfl)) (pv 1) (nomark _)) (pw_and1 (pt_cmpR op_gt (pe_callB call_len_seq (by rfl) T.m_len PySem.boot_len (pa_cons (pe_dget (units1 hr.units) (pv 0) pe_str (fun _ _ => rfl)) pa_nil)) pe_int (nomark _)))))
      (pss_one (ps_asg (pe_bm PySem.F.plainAttrs_list PySem.F.slot_list_pop PySem.F.type_list_pop mt_popAt (pe_dget (units1 hr.units) (pv 0) pe_str (fun _ _ => rfl)) (pa_cons pe_int pa_nil)) (pg_sub (pv 0) pe_str (set_dict (units1 hr.units)))))
      pss_nil)
      (pss_cons (ps_if (pt_cmpR op_ge (pe_dget (units1 hr.units) (pv 0) pe_str (fun _ _ => rfl)) (pv 1) (nomark _))
      (pss_cons (ps_set (i := 2) sc_law_draw.nd rfl (Or.inl rfl) (pe_op op_mod (pe_dget (units1 hr.units) (pv 0) pe_str (fun _ _ => rfl)) (pv 1)))
      (pss_cons (ps_asg (pe_op op_fdivW (pe_dget (units1 hr.units) (pv 0) pe_str (fun _ _ => rfl)) (pv 1)) (pg_sub (pv 0) pe_str (set_dict (units1 hr.units))))
      (pss_one (ps_ret (pv 2)))))
      pss_nil)
      (pss_cons (ps_daug (units1 hr.units) (pv 0) pe_str pe_int in_add (fun _ _ _ => rfl))
      (pss_cons (ps_set (i := 3) sc_law_draw.nd rfl (Or.inl rfl) (pe_dget (units1 hr.units) (pv 0) pe_str (fun _ _ => rfl)))
      (pss_cons (ps_set (i := 4) sc_law_draw.nd rfl (Or.inl rfl) (pe_op op_add (pe_op op_mul (pe_op op_add (pe_dget (units1 hr.units) (pv 0) pe_str (fun _ _ => rfl)) (pe_op op_mul pe_int (pv 3))) (pe_op op_pow (pe_op op_add (pv 3) pe_int) pe_int)) (pe_op op_mul pe_int (pv 3))))
      (pss_one (ps_ret (pe_op op_mod (pe_op op_fdivW (pe_op op_mod (pe_op op_pow (pe_op op_mod (pv 4) pe_int) pe_int) (pe_op op_add (pe_op op_pow pe_int pe_int) pe_int)) pe_int) (pv 1))))))))), ?_⟩
  obtain ⟨l, t, f, ds, ha, hg, f0, f1, t0, t1⟩ := hS
  have nag : a ≠ g := fun e => by rw [e, hg] at ha; cases ha
  obtain ⟨d1, d2, d3, d4⟩ := bag_get ha
  -- if bag['left'] < many and len(bag['great']) > 0
  refine ⟨fun σ' H' => σ' = [some (.ref a), some (.int many), none, none, none] ∧ ∃ l' ds', H' a = some (.dK (bagKV g l' t f)) ∧ H' g = some (.lst ((ds' : List Int).map V.int)) ∧ Same (hid a g H) (hid a g H'), ?_, fun σ' H1 h1 => ?_⟩
  · have none0 : ∃ l' ds', H a = some (.dK (bagKV g l' t f)) ∧ H g = some (.lst ((ds' : List Int).map V.int)) ∧ Same (hid a g H) (hid a g H) := ⟨l, ds, ha, hg, Same.refl _⟩
    refine ⟨_, rfl, a, _, rfl, d1, _, rfl, _, _, rfl, rfl, _, rfl, ite2 (fun _ => ?_) (fun _ => ⟨rfl, none0⟩)⟩
    refine ⟨_, rfl, a, _, rfl, d2, g, _, rfl, .inl (sql hg), _, _, rfl, rfl, _, rfl, ite2 (fun e => ?_) (fun _ => ⟨rfl, none0⟩)⟩
    have hpos : 0 < (ds.map V.int).length := by have := of_decide_eq_true e; omega
    rw [List.length_map] at hpos
    cases ds with
    | nil => exact absurd hpos (Nat.lt_irrefl 0)
    | cons x r =>
      refine ⟨_, rfl, a, _, rfl, d2, .inl ⟨rfl, _, sql hg⟩, g, _, 0, 0, .int x, rfl, rfl, hg, by decide, by decide, ?_, rfl, ?_⟩
      · rw [List.length_map, List.length_cons]
        unfold seqIndex?
        simp
      have ha2 : upd H g (.lst (((x :: r).map V.int).eraseIdx 0)) a = some (.dK (bagKV g l t f)) := by rw [upd_ne nag]; exact ha
      have sm2 : Same (hid a g H) (hid a g (upd H g (.lst (((x :: r).map V.int).eraseIdx 0)))) := by rw [hid_src2]; exact Same.refl _
      have hg2 : upd H g (.lst (((x :: r).map V.int).eraseIdx 0)) g = some (.lst (r.map V.int)) := upd_same
      generalize upd H g (.lst (((x :: r).map V.int).eraseIdx 0)) = H2 at *
      have dp : DPut H2 a (.str "left") (.int x) (upd H2 a (.dK (bagKV g x t f))) := by
        have := DPut.k (k := Sum.inr "left") (v := .int x) ha2 (size_lt (by show 4 < 100000; decide))
        rw [bag_left] at this
        exact this
      refine ⟨_, rfl, a, _, rfl, dp, rfl, x, r, upd_same, by rw [upd_ne nag.symm]; exact hg2, ?_⟩
      rw [hid_src1]
      exact sm2
  obtain ⟨rfl, l', ds', ha1, hg1, sm1⟩ := h1
  clear d1 d2 d3 d4
  obtain ⟨d1, d2, d3, d4⟩ := bag_get ha1
  refine ⟨_, rfl, a, _, rfl, d1, _, rfl, _, _, rfl, rfl, _, rfl, ite2 (fun e => ?_) (fun e => ?_)⟩
  · refine ⟨_, rfl, a, _, rfl, d1, _, rfl, _, _, rfl, rfl, hm0, ?_⟩
    have dp : DPut H1 a (.str "left") (.int (l' / many)) (upd H1 a (.dK (bagKV g (l' / many) t f))) := by
      have := DPut.k (k := Sum.inr "left") (v := .int (l' / many)) ha1 (size_lt (by show 4 < 100000; decide))
      rw [bag_left] at this
      exact this
    refine ⟨_, rfl, a, _, rfl, d1, _, rfl, _, _, rfl, rfl, wide_div (b := 100) hm0 (by omega) (by decide) (by decide), _, rfl, a, _, rfl, dp, ?_⟩
    refine ⟨_, rfl, q _ _ (Bdv.made (l' := l' / many) (t' := t) (ds' := ds') ?_ ha upd_same (by rw [upd_ne nag.symm]; exact hg1) (by omega) (by omega)) (Int.emod_nonneg _ (by omega)) (Int.emod_lt_of_pos _ hm0)⟩
    rw [hid_src1]
    exact sm1
  · have dp : DPut H1 a (.str "turn") (.int (t + 1)) (upd H1 a (.dK (bagKV g l' (t + 1) f))) := by
      have := DPut.k (k := Sum.inr "turn") (v := .int (t + 1)) ha1 (size_lt (by show 4 < 100000; decide))
      rw [bag_turn] at this
      exact this
    refine ⟨_, rfl, a, _, rfl, d3, _, _, rfl, rfl, _, dp, ?_⟩
    have ha2 := upd_same (H := H1) (a := a) (o := .dK (bagKV g l' (t + 1) f))
    have hg2 : upd H1 a (.dK (bagKV g l' (t + 1) f)) g = some (.lst (ds'.map V.int)) := by rw [upd_ne nag.symm]; exact hg1
    have sm2 : Same (hid a g H) (hid a g (upd H1 a (.dK (bagKV g l' (t + 1) f)))) := by rw [hid_src1]; exact sm1
    generalize upd H1 a (.dK (bagKV g l' (t + 1) f)) = H2 at *
    clear d1 d2 d3 d4
    obtain ⟨d1, d2, d3, d4⟩ := bag_get ha2
    have p2 : (0 : Int) < 10 ^ (18 : Int).toNat + 9 := by decide
    refine ⟨_, rfl, a, _, rfl, d3, ?_⟩
    refine ⟨_, rfl, a, _, rfl, d4, _, rfl, _, _, rfl, rfl, .inl ⟨by decide, by decide⟩, _, _, rfl, rfl, _, rfl, _, _, rfl, rfl, _, _, rfl, rfl, ⟨by decide, by decide, by omega⟩, _, _, rfl, rfl, .inl ⟨by omega, by omega⟩, _, rfl, _, _, rfl, rfl, .inl ⟨by decide, by decide⟩, _, _, rfl, rfl, ?_⟩
    generalize (f + 17 * (t + 1)) * (t + 1 + 29) ^ (2 : Int).toNat + 7919 * (t + 1) = big
    have b0 := Int.emod_nonneg big (show (2305843009213693951 : Int) ≠ 0 by decide)
    have b1 := Int.emod_lt_of_pos big (show (0 : Int) < 2305843009213693951 by decide)
    refine ⟨_, rfl, _, _, rfl, rfl, (by show (0 : Int) < 2305843009213693951; decide), _, _, rfl, rfl, ⟨by decide, by decide, by omega⟩, _, _, rfl, rfl, ⟨by decide, by decide, by decide⟩, _, _, rfl, rfl, _, _, rfl, rfl, p2, _, _, rfl, rfl, wide_div (b := 21) (by decide) (by decide) (by decide) (by decide), _, rfl, _, _, rfl, rfl, hm0, ?_⟩
    exact q H2 _ (Bdv.made sm2 ha ha2 hg2 (by omega) (by omega)) (Int.emod_nonneg _ (by omega)) (Int.emod_lt_of_pos _ hm0)

end
end Rn
namespace Rn
open PySem PySem.Spec PyProof.Rows L2
section
variable {P : Program} {w : World} {K : PySem.W.Frag} {mg : Str → Option Value} {base : Heap}
def sp_law_power (K : PySem.W.Frag) : Sp := fun vs H Q _ => ∃ (k : Int) (m e : Nat), vs = [.int k, .int (m : Int)] ∧ k.natAbs ≤ 2 ^ e ∧ 0 < e ∧ e * (m + 2) ≤ 900000 ∧ Q (.int (k ^ m)) H
theorem ok_law_power (T : Txt K mg) : FnOk P w K mg base CX0 1 T.f_law_power T.d_law_power ["base", "number"] (sp_law_power K) := by
  refine T.F_law_power.ok sc_law_power (fun vs H Q E h => ?_) (fun cdv A outer s H vs Q E hr h => ?_)
  · obtain ⟨k, m, e, rfl, _⟩ := h
    rfl
  obtain ⟨k, m, e, rfl, hk, he, hm, q⟩ := h
  refine ⟨_, (pss_cons (ps_set (i := 2) sc_law_power.nd rfl (Or.inl rfl) pe_int)
      (pss_cons (ps_for PassesOwn.never rfl (pi_range1 (by rfl) T.m_range (pa_cons (pv 1) pa_nil)) (pg_name (i := 3) sc_law_power.nd rfl (Or.inl rfl))
      (pss_one (ps_set (i := 2) sc_law_power.nd rfl (Or.inl rfl) (pe_op op_mulW (pv 2) (pv 0)))))
      (pss_one (ps_ret (pv 2))))), ?_⟩
  have hm2 : m + 2 ≤ 900000 := by
    have : 1 * (m + 2) ≤ e * (m + 2) := Nat.mul_le_mul_right _ he
    omega
  refine ⟨_, rfl, _, rfl, by omega, by omega, ?_⟩
  refine for_range (lo := 0) (n := _) (fun i σ H' => (∃ y3, σ = [some (.int k), some (.int (m : Int)), some (.int (k ^ i)), y3]) ∧ H' = H) ⟨⟨none, by rw [Int.pow_zero]; rfl⟩, rfl⟩ (fun i σ H' hi h => ?_) (fun σ H' h => ?_)
  · obtain ⟨⟨y3, rfl⟩, rfl⟩ := h
    have hi' : i < m := by omega
    have h1 : e * (i + 1) + (e + 1) ≤ e * (m + 2) + 1 := by
      have : e * (i + 2) ≤ e * (m + 2) := Nat.mul_le_mul_left _ (by omega)
      rw [Nat.mul_add] at *
      omega
    have p1 : (k ^ i).natAbs < 2 ^ (e * (i + 1)) := by
      rw [Int.natAbs_pow]
      refine Nat.lt_of_le_of_lt (Nat.pow_le_pow_left hk i) ?_
      rw [← Nat.pow_mul]
      exact Nat.pow_lt_pow_right (by decide) (Nat.mul_lt_mul_of_pos_left (by omega) he)
    have p2 : k.natAbs < 2 ^ (e + 1) := Nat.lt_of_le_of_lt hk (Nat.pow_lt_pow_right (by decide) (by omega))
    refine ⟨_, rfl, _, rfl, _, _, rfl, rfl, wide_mul p1 p2 (Nat.mul_pos he (by omega)) (by omega) (by omega), ⟨some (.int (0 + (i : Int))), by rw [Int.pow_succ]; rfl⟩, rfl⟩
  · obtain ⟨⟨y3, rfl⟩, rfl⟩ := h
    refine ⟨_, rfl, ?_⟩
    rw [show ((m : Int)).toNat = m from Int.toNat_natCast m]
    exact q

end
end Rn
namespace Rn
open PySem PySem.Spec PyProof.Rows L2
section
variable {P : Program} {w : World} {K : PySem.W.Frag} {mg : Str → Option Value} {base : Heap}
def sp_law_by_primes (K : PySem.W.Frag) : Sp := fun vs H Q _ => ∃ (p q : Nat) (k : Int), vs = [.int (p : Int), .int (q : Int), .int k] ∧ 2 ≤ p ∧ p ≤ 13 ∧ 2 ≤ q ∧ q ≤ 13 ∧ 1 ≤ k ∧ k ≤ 100 ∧ Q (.int (k ^ (p * q - 1) - 2 * k ^ (p + q - 2) + k)) H
theorem ok_law_by_primes (T : Txt K mg) : FnOk P w K mg base CX0 2 T.f_law_by_primes T.d_law_by_primes ["one", "two", "many"] (sp_law_by_primes K) := by
  have G_law_power := ok_law_power (P := P) (w := w) (base := base) T
  refine T.F_law_by_primes.ok sc_law_by_primes (fun vs H Q E h => ?_) (fun cdv A outer s H vs Q E hr h => ?_)
  · obtain ⟨p, q, k, rfl, _⟩ := h
    rfl
  obtain ⟨p, q, k, rfl, p2, p3, q2, q3, k1, k2, z⟩ := h
  refine ⟨_, (pss_one (ps_ret (pe_op op_add (pe_op op_sub (pe_call G_law_power hr (by rfl) T.g_law_power T.F_law_power.kp T.b_law_power .nil pass0 (pa_cons (pv 2) (pa_cons (pe_op op_sub (pe_op op_mul (pv 0) (pv 1)) pe_int) pa_nil))) (pe_op op_mul pe_int (pe_call G_law_power hr (by rfl) T.g_law_power T.F_law_power.kp T.b_law_power .nil pass0 (pa_cons (pv 2) (pa_cons (pe_op op_sub (pe_op op_add (pv 0) (pv 1)) pe_int) pa_nil))))) (pv 2)))), ?_⟩
  have kabs : k.natAbs ≤ 2 ^ 7 := by omega
  have h1 : 2 * 2 ≤ p * q := Nat.mul_le_mul p2 q2
  have h2 : p * q ≤ 13 * 13 := Nat.mul_le_mul p3 q3
  refine ⟨_, rfl, _, rfl, _, rfl, _, _, rfl, rfl, .inl ⟨by omega, by omega⟩, _, _, rfl, rfl, k, p * q - 1, 7, ?_, kabs, by decide, by omega, ?_⟩
  · rw [show ((p * q - 1 : Nat) : Int) = (p : Int) * (q : Int) - 1 by rw [← Int.natCast_mul]; omega]
    rfl
  refine ⟨_, rfl, _, rfl, _, rfl, _, _, rfl, rfl, _, _, rfl, rfl, k, p + q - 2, 7, ?_, kabs, by decide, by omega, ?_⟩
  · rw [show ((p + q - 2 : Nat) : Int) = (p : Int) + (q : Int) - 2 by omega]
    rfl
  exact ⟨_, _, rfl, rfl, .inl ⟨by decide, by decide⟩, _, _, rfl, rfl, _, rfl, _, _, rfl, rfl, z⟩

end
end Rn
namespace Rn
open PySem PySem.Spec PyProof.Rows L2
section
variable {P : Program} {w : World} {K : PySem.W.Frag} {mg : Str → Option Value} {base : Heap}
def sp_law_by_square (K : PySem.W.Frag) : Sp := fun vs H Q _ => ∃ (p : Nat) (k : Int), vs = [.int (p : Int), .int k] ∧ 2 ≤ p ∧ p ≤ 13 ∧ 1 ≤ k ∧ k ≤ 100 ∧ Q (.int (k ^ (p * p - 1) - k ^ (2 * p - 2))) H
theorem ok_law_by_square (T : Txt K mg) : FnOk P w K mg base CX0 2 T.f_law_by_square T.d_law_by_square ["one", "many"] (sp_law_by_square K) := by
  have G_law_power := ok_law_power (P := P) (w := w) (base := base) T
  refine T.F_law_by_square.ok sc_law_by_square (fun vs H Q E h => ?_) (fun cdv A outer s H vs Q E hr h => ?_)
  · obtain ⟨p, k, rfl, _⟩ := h
    rfl
  obtain ⟨p, k, rfl, p2, p3, k1, k2, z⟩ := h
  refine ⟨_, (pss_one (ps_ret (pe_op op_sub (pe_call G_law_power hr (by rfl) T.g_law_power T.F_law_power.kp T.b_law_power .nil pass0 (pa_cons (pv 1) (pa_cons (pe_op op_sub (pe_op op_mul (pv 0) (pv 0)) pe_int) pa_nil))) (pe_call G_law_power hr (by rfl) T.g_law_power T.F_law_power.kp T.b_law_power .nil pass0 (pa_cons (pv 1) (pa_cons (pe_op op_sub (pe_op op_mul pe_int (pv 0)) pe_int) pa_nil)))))), ?_⟩
  have kabs : k.natAbs ≤ 2 ^ 7 := by omega
  have h1 : 2 * 2 ≤ p * p := Nat.mul_le_mul p2 p2
  have h2 : p * p ≤ 13 * 13 := Nat.mul_le_mul p3 p3
  refine ⟨_, rfl, _, rfl, _, rfl, _, _, rfl, rfl, .inl ⟨by omega, by omega⟩, _, _, rfl, rfl, k, p * p - 1, 7, ?_, kabs, by decide, by omega, ?_⟩
  · rw [show ((p * p - 1 : Nat) : Int) = (p : Int) * (p : Int) - 1 by rw [← Int.natCast_mul]; omega]
    rfl
  refine ⟨_, rfl, _, rfl, _, _, rfl, rfl, .inl ⟨by decide, by decide⟩, _, _, rfl, rfl, k, 2 * p - 2, 7, ?_, kabs, by decide, by omega, ?_⟩
  · rw [show ((2 * p - 2 : Nat) : Int) = 2 * (p : Int) - 2 by omega]
    rfl
  exact ⟨_, _, rfl, rfl, z⟩

end
end Rn
namespace Rn
open PySem PySem.Spec PyProof.Rows L2
section
variable {P : Program} {w : World} {K : PySem.W.Frag} {mg : Str → Option Value} {base : Heap}
def sp_law_by_cube (K : PySem.W.Frag) : Sp := fun vs H Q _ => ∃ (p : Nat) (k : Int), vs = [.int (p : Int), .int k] ∧ 2 ≤ p ∧ p ≤ 5 ∧ 1 ≤ k ∧ k ≤ 100 ∧ Q (.int (k ^ (p * p * p - 1) - (2 * k ^ (p + p * p - 2) - k ^ (3 * p - 3)))) H
theorem ok_law_by_cube (T : Txt K mg) : FnOk P w K mg base CX0 2 T.f_law_by_cube T.d_law_by_cube ["one", "many"] (sp_law_by_cube K) := by
  have G_law_power := ok_law_power (P := P) (w := w) (base := base) T
  refine T.F_law_by_cube.ok sc_law_by_cube (fun vs H Q E h => ?_) (fun cdv A outer s H vs Q E hr h => ?_)
  · obtain ⟨p, k, rfl, _⟩ := h
    rfl
  obtain ⟨p, k, rfl, p2, p3, k1, k2, z⟩ := h
  refine ⟨_, (pss_cons (ps_set (i := 2) sc_law_by_cube.nd rfl (Or.inl rfl) (pe_op op_sub (pe_op op_mul pe_int (pe_call G_law_power hr (by rfl) T.g_law_power T.F_law_power.kp T.b_law_power .nil pass0 (pa_cons (pv 1) (pa_cons (pe_op op_sub (pe_op op_add (pv 0) (pe_op op_mul (pv 0) (pv 0))) pe_int) pa_nil)))) (pe_call G_law_power hr (by rfl) T.g_law_power T.F_law_power.kp T.b_law_power .nil pass0 (pa_cons (pv 1) (pa_cons (pe_op op_sub (pe_op op_mul pe_int (pv 0)) pe_int) pa_nil)))))
      (pss_one (ps_ret (pe_op op_sub (pe_call G_law_power hr (by rfl) T.g_law_power T.F_law_power.kp T.b_law_power .nil pass0 (pa_cons (pv 1) (pa_cons (pe_op op_sub (pe_op op_mul (pe_op op_mul (pv 0) (pv 0)) (pv 0)) pe_int) pa_nil))) (pv 2))))), ?_⟩
  have kabs : k.natAbs ≤ 2 ^ 7 := by omega
  have h1 : 2 * 2 ≤ p * p := Nat.mul_le_mul p2 p2
  have h2 : p * p ≤ 5 * 5 := Nat.mul_le_mul p3 p3
  have h3 : 4 * 2 ≤ p * p * p := Nat.mul_le_mul h1 p2
  have h4 : p * p * p ≤ 25 * 5 := Nat.mul_le_mul h2 p3
  refine ⟨_, rfl, _, rfl, _, rfl, _, rfl, _, _, rfl, rfl, .inl ⟨by omega, by omega⟩, _, _, rfl, rfl, _, _, rfl, rfl, k, p + p * p - 2, 7, ?_, kabs, by decide, by omega, ?_⟩
  · rw [show ((p + p * p - 2 : Nat) : Int) = (p : Int) + (p : Int) * (p : Int) - 2 by rw [← Int.natCast_mul]; omega]
    rfl
  refine ⟨_, _, rfl, rfl, .inl ⟨by decide, by decide⟩, _, rfl, _, rfl, _, _, rfl, rfl, .inl ⟨by decide, by decide⟩, _, _, rfl, rfl, k, 3 * p - 3, 7, ?_, kabs, by decide, by omega, ?_⟩
  · rw [show ((3 * p - 3 : Nat) : Int) = 3 * (p : Int) - 3 by omega]
    rfl
  refine ⟨_, _, rfl, rfl, ?_⟩
  refine ⟨_, rfl, _, rfl, _, rfl, _, _, rfl, rfl, .inl ⟨by omega, by omega⟩, _, rfl, _, _, rfl, rfl, .inr ⟨by omega, by omega⟩, _, _, rfl, rfl, k, p * p * p - 1, 7, ?_, kabs, by decide, by omega, ?_⟩
  · rw [show ((p * p * p - 1 : Nat) : Int) = (p : Int) * (p : Int) * (p : Int) - 1 by rw [← Int.natCast_mul, ← Int.natCast_mul]; omega]
    rfl
  exact ⟨_, rfl, _, _, rfl, rfl, z⟩

end
end Rn
namespace Rn
open PySem PySem.Spec PyProof.Rows L2
section
variable {P : Program} {w : World} {K : PySem.W.Frag} {mg : Str → Option Value} {base : Heap}
theorem rg_two (n : Nat) (h : 1 ≤ n) : (((List.range (n - 1)).map fun i : Nat => (2 : Int) + (i : Int)).filter fun x => decide ((n : Int) % x = 0)) = cI (dv2 n) := by
  have e1 : ((List.range (n - 1)).map fun i : Nat => (2 : Int) + (i : Int)) = cI ((List.range (n + 1)).filter fun d => decide (2 ≤ d)) := by
    obtain ⟨m, rfl⟩ : ∃ m, n = m + 1 := ⟨n - 1, by omega⟩
    rw [Nat.add_sub_cancel]
    have e2 : (List.range (m + 1 + 1)).filter (fun d => decide (2 ≤ d)) = (List.range m).map fun i => i + 2 := by
      rw [List.range_succ_eq_map, List.range_succ_eq_map, List.filter_cons, if_neg (by decide), List.map_cons, List.filter_cons, if_neg (by decide), List.map_map, List.filter_eq_self.mpr]
      · exact List.map_congr_left fun i _ => rfl
      · intro x hx
        obtain ⟨y, _, rfl⟩ := List.mem_map.mp hx
        exact decide_eq_true (by show 2 ≤ y + 1 + 1; omega)
    rw [e2]
    unfold cI
    rw [List.map_map]
    exact List.map_congr_left fun i _ => by show (2 : Int) + (i : Int) = ((i + 2 : Nat) : Int); omega
  rw [e1]
  unfold cI dv2 dvs
  rw [List.filter_map, List.filter_filter, List.filter_filter]
  congr 1
  refine List.filter_congr fun x _ => ?_
  show (decide ((n : Int) % ((x : Nat) : Int) = 0) && decide (2 ≤ x)) = (decide (2 ≤ x) && (decide (1 ≤ x) && decide (n % x = 0)))
  have e3 : ((n : Int) % (x : Int) = 0) ↔ n % x = 0 := by
    rw [← Int.natCast_emod]
    omega
  rw [Bool.eq_iff_iff]
  simp only [Bool.and_eq_true, decide_eq_true_eq, e3]
  constructor
  · rintro ⟨a, b⟩; exact ⟨b, by omega, a⟩
  · rintro ⟨a, _, b⟩; exact ⟨b, a⟩
theorem dv2_split {n : Nat} (h : 2 ≤ n) : dvs n = 1 :: dv2 n := by
  obtain ⟨r, e⟩ := dvs_one (n := n) (by omega)
  unfold dv2
  rw [e]
  have hp : (1 :: r).Pairwise (· < ·) := by
    rw [← e]
    exact List.Pairwise.sublist List.filter_sublist List.pairwise_lt_range
  rw [List.filter_cons, if_neg (by decide), List.filter_eq_self.mpr]
  intro x hx
  exact decide_eq_true ((List.pairwise_cons.mp hp).1 x hx)
theorem short_iff {n : Nat} (h : 2 ≤ n) : (((List.range (n - 2)).map fun i : Nat => (2 : Int) + (i : Int)).filter fun x => decide ((n : Int) % x = 0)) = [] ↔ (dvs n).length = 2 := by
  have e := rg_two n (by omega)
  rw [dv2_split h, List.length_cons]
  have hl : (dv2 n).length = (cI (dv2 n)).length := by unfold cI; rw [List.length_map]
  rw [hl, ← e, show n - 1 = n - 2 + 1 by omega, List.range_succ, List.map_append, List.filter_append, List.length_append, List.map_cons, List.map_nil, List.filter_cons, if_pos (decide_eq_true (by rw [show (2 : Int) + ((n - 2 : Nat) : Int) = (n : Int) by omega]; exact Int.emod_self)), List.filter_nil]
  rw [← List.length_eq_zero_iff, List.length_singleton]
  omega
theorem cI_getI {ds : List Nat} {i : Nat} {x : Int} (h : (cI ds)[i]? = some x) : ∃ d, ds[i]? = some d ∧ x = (d : Int) := by
  unfold cI at h
  rw [List.getElem?_map] at h
  obtain ⟨d, hd, e⟩ := Option.map_eq_some_iff.mp h
  exact ⟨d, hd, e.symm⟩
theorem cI_div (m : Nat) (ds : List Nat) : (cI ds).map (fun x => (m : Int) / x) = cI (ds.map fun d => m / d) := by
  unfold cI
  rw [List.map_map, List.map_map]
  exact List.map_congr_left fun d _ => (Int.natCast_ediv m d).symm
theorem pre_dv2 {n m i d : Nat} (h : (dv2 n)[i]? = some m) (hd : d ∈ pds m) : d ∈ 1 :: (dv2 n).take i := by
  obtain ⟨d1, d2, d3⟩ := mem_pds.mp hd
  obtain ⟨m2, m3, m4⟩ := mem_dv2.mp (List.mem_of_getElem? h)
  by_cases z : d = 1
  · rw [z]
    exact List.mem_cons_self
  · refine List.mem_cons_of_mem _ ?_
    have hin : d ∈ dv2 n := mem_dv2.mpr ⟨by omega, by omega, Nat.mod_eq_zero_of_dvd (Nat.dvd_trans (Nat.dvd_of_mod_eq_zero d3) (Nat.dvd_of_mod_eq_zero m4))⟩
    have srt : (dv2 n).Pairwise (· < ·) := List.Pairwise.sublist List.filter_sublist (List.Pairwise.sublist List.filter_sublist List.pairwise_lt_range)
    obtain ⟨j, hj, e⟩ := List.getElem_of_mem hin
    have hji : j < i := by
      rcases Nat.lt_or_ge j i with y | y
      · exact y
      · exfalso
        obtain ⟨hi1, e1⟩ := List.getElem?_eq_some_iff.mp h
        rcases Nat.lt_or_eq_of_le y with w1 | w1
        · have := (List.pairwise_iff_getElem.mp srt) i j hi1 hj w1
          rw [e, e1] at this
          omega
        · subst w1
          rw [e1] at e
          omega
    exact List.mem_of_getElem? (i := j) (by rw [List.getElem?_take, if_pos hji, List.getElem?_eq_getElem hj, e])
theorem eqv_nil (ns : List Int) : PyData.eqv (dInts ns) (dInts []) = decide (ns = []) := eqv_ints ns []
def sp_law_all (K : PySem.W.Frag) : Sp := fun vs H Q _ => ∃ (t : Addr) (n : Nat) (k : Int) (kvs : List (Key × V)), vs = [.ref t, .int (n : Int), .int k] ∧ H t = some (.dK kvs) ∧ Tab kvs (dvs n) (cntF k) ∧ 1 ≤ n ∧ n ≤ 200 ∧ 1 ≤ k ∧ k ≤ 100 ∧
  ∀ H', Same H H' → Q (.int (k ^ (n - 1))) H'
theorem ok_law_all (T : Txt K mg) : FnOk P w K mg base CX0 1 T.f_law_all T.d_law_all ["told", "size", "many"] (sp_law_all K) := by
  refine T.F_law_all.ok sc_law_all (fun vs H Q E h => ?_) (fun cdv A outer s H vs Q E hr h => ?_)
  · obtain ⟨t, n, k, kvs, rfl, _⟩ := h
    rfl
  obtain ⟨t, n, k, kvs, rfl, ht, tab, n1, n2, k1, k2, q⟩ := h
  refine ⟨_, (pss_cons (ps_asg (pe_tup (pa_cons (pe_disp (pps_cons pe_int pe_int pps_nil) (by rfl) (by rfl) (fun z => by cases z) (by decide)) (pa_cons (pe_disp (pps_cons pe_int pe_int pps_nil) (by rfl) (by rfl) (fun z => by cases z) (by decide)) pa_nil))) (pg_tup rfl (pgs_cons (pg_name (i := 3) sc_law_all.nd rfl (Or.inr rfl)) (pgs_cons (pg_name (i := 4) sc_law_all.nd rfl (Or.inr rfl)) pgs_nil))))
      (pss_cons (ps_for PassesOwn.never rfl (pi_list (pe_lc (own := [("number", 5)]) (g := gName 5)  rfl sc_law_all.nd (pi_range2 (by rfl) T.m_range (pa_cons pe_int (pa_cons (pe_op op_add (pv 1) pe_int) pa_nil))) (blkOk_by (N := ["told", "size", "many", "all_now", "constant_now", "number", "parts", "rests", "found", "part", "short", "mine", "rest", "other"]) (sc := defScope s_law_all) (by decide +kernel)) (fun _ _ _ _ _ => (pg_name (i := 5) sc_law_all.nd rfl (Or.inl rfl))) (fun _ _ _ _ _ => (pts_one (pt_cmpR op_eq (pe_op op_mod (pv 1) (pv 5)) pe_int (nomark _)))) (fun _ _ _ _ _ => (pv 5)))) (pg_name (i := 5) sc_law_all.nd rfl (Or.inr rfl))
      (pss_cons (ps_setLc (i := 6) (own := [("part", 9)]) (g := gName 9)  rfl sc_law_all.nd rfl rfl (sw_true rfl rfl rfl (by decide +kernel)) (pi_range2 (by rfl) T.m_range (pa_cons pe_int (pa_cons (pe_op op_add (pv 5) pe_int) pa_nil))) (blkOk_by (N := ["told", "size", "many", "all_now", "constant_now", "number", "parts", "rests", "found", "part", "short", "mine", "rest", "other"]) (sc := defScope s_law_all) (by decide +kernel)) (fun _ _ _ _ _ => (pg_name (i := 9) sc_law_all.nd rfl (Or.inl rfl))) (fun _ _ _ _ _ => (pts_one (pt_cmpR op_eq (pe_op op_mod (pv 5) (pv 9)) pe_int (nomark _)))) (fun _ _ _ _ _ => (pv 9)))
      (pss_cons (ps_setLc (i := 7) (own := [("part", 9)]) (g := gName 9) (tt := tYes) rfl sc_law_all.nd rfl rfl (sw_true rfl rfl rfl (by decide +kernel)) (pi_list (pv 6)) (blkOk_by (N := ["told", "size", "many", "all_now", "constant_now", "number", "parts", "rests", "found", "part", "short", "mine", "rest", "other"]) (sc := defScope s_law_all) (by decide +kernel)) (fun _ _ _ _ _ => (pg_name (i := 9) sc_law_all.nd rfl (Or.inl rfl))) (fun _ _ _ _ _ => pts_nil) (fun _ _ _ _ _ => (pe_op op_fdivW (pv 5) (pv 9))))
      (pss_cons (ps_asg (pe_callB (cr_sum rfl) (by rfl) T.m_sum (by decide +kernel) (pa_cons (pe_lc (own := [("rest", 12)]) (g := gName 12) (tt := tYes) rfl sc_law_all.nd (pi_list (pv 7)) (blkOk_by (N := ["told", "size", "many", "all_now", "constant_now", "number", "parts", "rests", "found", "part", "short", "mine", "rest", "other"]) (sc := defScope s_law_all) (by decide +kernel)) (fun _ _ _ _ _ => (pg_name (i := 12) sc_law_all.nd rfl (Or.inl rfl))) (fun _ _ _ _ _ => pts_nil) (fun _ _ _ _ _ => (pe_op op_sub (pe_dget (units1 hr.units) (pv 3) (pv 12) (fun _ _ => rfl)) (pe_dget (units1 hr.units) (pv 4) (pv 12) (fun _ _ => rfl))))) pa_nil)) (pg_sub (pv 4) (pv 5) (set_dict (units1 hr.units))))
      (pss_cons (ps_set (i := 8) sc_law_all.nd rfl (Or.inl rfl) (pe_op op_mul (pv 2) (pe_dget (units1 hr.units) (pv 4) (pv 5) (fun _ _ => rfl))))
      (pss_cons (ps_for PassesOwn.never rfl (pi_list (pv 6)) (pg_name (i := 9) sc_law_all.nd rfl (Or.inr rfl))
      (pss_cons (ps_setLc (i := 10) (own := [("other", 13)]) (g := gName 13)  rfl sc_law_all.nd rfl rfl (sw_true rfl rfl rfl (by decide +kernel)) (pi_range2 (by rfl) T.m_range (pa_cons pe_int (pa_cons (pv 9) pa_nil))) (blkOk_by (N := ["told", "size", "many", "all_now", "constant_now", "number", "parts", "rests", "found", "part", "short", "mine", "rest", "other"]) (sc := defScope s_law_all) (by decide +kernel)) (fun _ _ _ _ _ => (pg_name (i := 13) sc_law_all.nd rfl (Or.inl rfl))) (fun _ _ _ _ _ => (pts_one (pt_cmpR op_eq (pe_op op_mod (pv 9) (pv 13)) pe_int (nomark _)))) (fun _ _ _ _ _ => (pv 13)))
      (pss_cons (ps_set (i := 11) sc_law_all.nd rfl (Or.inl rfl) (pe_op op_sub (pe_dget (units1 hr.units) (pv 0) (pv 9) (fun _ _ => rfl)) (pe_op op_mul (pv 2) (pe_callTy call_int1 (by rfl) T.m_int (by decide +kernel) (pa_cons (pe_cmpR (op_eqD hr.units) (pv 10) (pe_lst pa_nil) (nomark _)) pa_nil)))))
      (pss_one (ps_aug (i := 8) sc_law_all.nd rfl (Or.inl rfl) (pe_op op_mulW (pv 11) (pe_dget (units1 hr.units) (pv 3) (pe_op op_fdivW (pv 5) (pv 9)) (fun _ _ => rfl))) ip_add)))))
      (pss_one (ps_asg (pv 8) (pg_sub (pv 3) (pv 5) (set_dict (units1 hr.units)))))))))))
      (pss_one (ps_ret (pe_dget (units1 hr.units) (pv 3) (pv 1) (fun _ _ => rfl)))))), ?_⟩
  have kabs : k.natAbs ≤ 2 ^ 7 := by omega
  refine fun o ho => ⟨upd_same, [(Sum.inl 1, .int 1)], rfl, by decide, ?_⟩
  have so := same_keep (o := .dK [(Sum.inl 1, .int 1)]) (same_new (o := .dK []) ho) ho
  have eo := upd_same (H := upd H o (.dK [])) (a := o) (o := .dK [(Sum.inl 1, .int 1)])
  refine fun c hc => ⟨upd_same, [(Sum.inl 1, .int 0)], rfl, by decide, ?_⟩
  change upd (upd H o (.dK [])) o (.dK [(Sum.inl 1, .int 1)]) c = none at hc
  have sc := same_keep (o := .dK [(Sum.inl 1, .int 0)]) (same_new (o := .dK []) hc) hc
  have ec := upd_same (H := upd (upd (upd H o (.dK [])) o (.dK [(Sum.inl 1, .int 1)])) c (.dK [])) (a := c) (o := .dK [(Sum.inl 1, .int 0)])
  have eo2 := sc _ _ eo
  have noc : o ≠ c := fun z => by rw [← z, eo] at hc; cases hc
  refine ⟨size_le (by show 2 ≤ 100000; decide), fun tp htp => ⟨tp, _, rfl, sqt upd_same, rfl, _, _, rfl, _, _, rfl, rfl, ?_⟩⟩
  change upd (upd (upd (upd H o (.dK [])) o (.dK [(Sum.inl 1, .int 1)])) c (.dK [])) c (.dK [(Sum.inl 1, .int 0)]) tp = none at htp
  have st := same_new (o := .tup [.ref o, .ref c]) htp
  change tSeq _ _ _ _ (upd (upd (upd (upd (upd H o (.dK [])) o (.dK [(Sum.inl 1, .int 1)])) c (.dK [])) c (.dK [(Sum.inl 1, .int 0)])) tp (.tup [.ref o, .ref c]))
  have sc2 := sc.trans st
  have eo3 := st _ _ eo2
  have ec3 := st _ _ ec
  clear htp st
  generalize upd (upd (upd (upd (upd H o (.dK [])) o (.dK [(Sum.inl 1, .int 1)])) c (.dK [])) c (.dK [(Sum.inl 1, .int 0)])) tp (.tup [.ref o, .ref c]) = H1 at *
  have fc : H c = none := so.free hc
  clear eo eo2 ec sc
  have s1 := so.trans sc2
  have fo : H o = none := ho
  -- the numbers
  refine ⟨_, rfl, _, _, rfl, rfl, _, _, rfl, ⟨by decide, by decide, by omega, by omega⟩, fun D hD => ?_⟩
  refine lc_filter (lo := 2) (n := _) (fun x => decide ((n : Int) % x = 0)) hD (by omega) (fun i H2 TT FF hi sm hT hF => ?_) (fun H2 s2 hd => ?_)
  · refine ⟨rfl, _, rfl, _, rfl, _, _, rfl, rfl, by omega, rfl, _, rfl, ite2 (fun e => ⟨_, rfl, hT ?_⟩) (fun e => hF ?_)⟩
    · have := of_decide_eq_true e
      injection this with this
      exact decide_eq_true this
    · exact decide_eq_false fun z => e (decide_eq_true (by show V.int ((n : Int) % (2 + (i : Int))) = V.int 0; rw [z]))
  rw [show ((n : Int) + 1 - 2).toNat = n - 1 by omega, rg_two n n1] at hd
  have ld : (dv2 n).length ≤ n + 1 := Nat.le_trans (List.length_filter_le _ _) (dvs_len n)
  have b0 := s2.trans (Same.refl H2)
  have s2' := s1.trans s2
  have hn : ∀ d ∈ dv2 n, 2 ≤ d ∧ d ≤ n ∧ d ∈ dvs n := fun d hd => by obtain ⟨a, b, e⟩ := mem_dv2.mp hd; exact ⟨a, b, mem_dvs.mpr ⟨b, by omega, e⟩⟩
  refine ⟨D, rfl, ⟨_, sql hd⟩, for_list (xs := (cI (dv2 n)).map V.int) (fun i σ H' => (∃ y5 y6 y7 y8 y9 y10 y11 y12 y13, σ = [some (.ref t), some (.int (n : Int)), some (.int k), some (.ref o), some (.ref c), y5, y6, y7, y8, y9, y10, y11, y12, y13]) ∧ Same H H' ∧ H' D = some (.lst ((cI (dv2 n)).map V.int)) ∧
      (∃ kvO, H' o = some (.dK kvO) ∧ kvO.length ≤ i + 1 ∧ Tab kvO (1 :: (dv2 n).take i) (fun m => k ^ (m - 1))) ∧ (∃ kvC, H' c = some (.dK kvC) ∧ kvC.length ≤ i + 1 ∧ Tab kvC (1 :: (dv2 n).take i) (conF k)))
    ⟨⟨_, _, _, _, _, _, _, _, _, rfl⟩, s2', hd, ⟨_, s2 _ _ eo3, Nat.le_refl _, fun d hd => ?_⟩, ⟨_, s2 _ _ ec3, Nat.le_refl _, fun d hd => ?_⟩⟩ (fun i σ H' _ h => sql h.2.2.1) (fun i x σ H5 hx h => ?_) (fun σ H5 h => ?_)⟩
  · rw [List.mem_singleton.mp hd]
    show _ = some (V.int (k ^ 0))
    rw [Int.pow_zero]
    rfl
  · rw [List.mem_singleton.mp hd, con_one]
    rfl
  · obtain ⟨⟨y5, y6, y7, y8, y9, y10, y11, y12, y13, rfl⟩, sm, hD5, ⟨kvO, hO, lO, tO⟩, ⟨kvC, hC, lC, tC⟩⟩ := h
    obtain ⟨m, hm, rfl⟩ := cI_get hx
    have hi : i < (dv2 n).length := (List.getElem?_eq_some_iff.mp hm).1
    obtain ⟨m2, mn, mdv⟩ := hn m (List.mem_of_getElem? hm)
    -- parts
    refine ⟨_, rfl, _, _, rfl, rfl, _, _, rfl, ⟨by decide, by decide, by omega, by omega⟩, fun E1 hE1 => ?_⟩
    refine lc_filter (lo := 2) (n := _) (fun x => decide ((m : Int) % x = 0)) hE1 (by omega) (fun j H6 TT FF hj sm6 hT hF => ?_) (fun H6 s6 hd6 => ?_)
    · refine ⟨rfl, _, rfl, _, rfl, _, _, rfl, rfl, by omega, rfl, _, rfl, ite2 (fun e => ⟨_, rfl, hT ?_⟩) (fun e => hF ?_)⟩
      · have := of_decide_eq_true e
        injection this with this
        exact decide_eq_true this
      · exact decide_eq_false fun z => e (decide_eq_true (by show V.int ((m : Int) % (2 + (j : Int))) = V.int 0; rw [z]))
    rw [show ((m : Int) + 1 - 2).toNat = m - 1 by omega, rg_two m (by omega)] at hd6
    have lm : (dv2 m).length ≤ m + 1 := Nat.le_trans (List.length_filter_le _ _) (dvs_len m)
    -- rests
    refine ⟨_, rfl, E1, rfl, ⟨_, sql hd6⟩, fun E2 hE2 => ?_⟩
    refine lc_mapI (ns := cI (dv2 m)) (fun x => (m : Int) / x) hE2 (sql hd6) (by unfold cI; rw [List.length_map]; omega) (fun j x H7 TT hx7 s7 hT => ?_) (fun H7 s7 hd7 => ?_) gName_mono
    · obtain ⟨d, hd, rfl⟩ := cI_getI hx7
      obtain ⟨d2, d3, d4⟩ := mem_dv2.mp (List.mem_of_getElem? hd)
      exact ⟨rfl, _, rfl, _, rfl, _, _, rfl, rfl, wide_div (b := 20) (by omega) (by omega) (by decide) (by decide), hT H7 (Same.refl _)⟩
    rw [cI_div] at hd7
    have rmem : ∀ r ∈ (dv2 m).map (fun d => m / d), r ∈ pds m := fun r hr => (co_perm (by omega)).mem_iff.mp hr
    have lr : ((dv2 m).map fun d => m / d).length ≤ m + 1 := by rw [List.length_map]; exact lm
    have s57 := s6.trans s7
    have nec : ∀ {H'}, Same H5 H' → H' o = some (.dK kvO) ∧ H' c = some (.dK kvC) := fun {H'} s => ⟨s _ _ hO, s _ _ hC⟩
    -- constant_now[number]
    refine ⟨_, rfl, E2, rfl, ⟨_, sql hd7⟩, fun E3 hE3 => ?_⟩
    refine lc_mapI (ns := cI ((dv2 m).map fun d => m / d)) (fun x => k ^ (x.toNat - 1) - conF k x.toNat) hE3 (sql hd7) (by unfold cI; rw [List.length_map]; omega) (fun j x H8 TT hx8 s8 hT => ?_) (fun H8 s8 hd8 => ?_) gName_mono
    · obtain ⟨r, hr, rfl⟩ := cI_getI hx8
      have hr := pre_dv2 hm (rmem r (List.mem_of_getElem? hr))
      obtain ⟨z1, z2⟩ := nec (s57.trans s8)
      exact ⟨rfl, _, rfl, _, rfl, o, _, rfl, tO.get z1 hr, _, rfl, _, rfl, c, _, rfl, tC.get z2 hr, _, _, rfl, rfl, hT H8 (Same.refl _)⟩
    have s58 := s57.trans s8
    have hC8 := (nec s58).2
    have esum : ((cI ((dv2 m).map fun d => m / d)).map fun x => k ^ (x.toNat - 1) - conF k x.toNat).sum = conF k m := by
      rw [← con_sum k (n := m) (by omega)]
      congr 1
      unfold cI
      rw [List.map_map]
      exact List.map_congr_left fun r _ => rfl
    have dp : DPut H8 c (.int (m : Int)) (.int ((cI ((dv2 m).map fun d => m / d)).map fun x => k ^ (x.toNat - 1) - conF k x.toNat).sum) (upd H8 c (.dK (putK kvC (Sum.inl (m : Int)) (.int (conF k m))))) := by
      rw [esum]
      exact DPut.k (k := Sum.inl (m : Int)) hC8 (size_lt (by omega))
    refine ⟨E3, _, rfl, sql hd8, _, rfl, _, rfl, c, _, rfl, dp, ?_⟩
    have tkm : (dv2 n).take (i + 1) = (dv2 n).take i ++ [m] := by rw [List.take_add_one, hm]; rfl
    have tC8 := tC.put (d := m)
    have lC8 := Nat.le_trans (length_putK kvC (Sum.inl (m : Int)) (.int (conF k m))) (Nat.succ_le_succ lC)
    generalize putK kvC (Sum.inl (m : Int)) (.int (conF k m)) = kvC' at *
    have s9 : Same H (upd H8 c (.dK kvC')) := same_keep (sm.trans s58) fc
    have hC9 := upd_same (H := H8) (a := c) (o := .dK kvC')
    have hO9 : upd H8 c (.dK kvC') o = some (.dK kvO) := by rw [upd_ne noc]; exact (nec s58).1
    have n1c : E1 ≠ c := fun z => by rw [z, s6 _ _ hC] at hd6; cases hd6
    have n2c : D ≠ c := fun z => by rw [z, hC] at hD5; cases hD5
    have hd9 : upd H8 c (.dK kvC') E1 = some (.lst ((cI (dv2 m)).map V.int)) := by rw [upd_ne n1c]; exact s8 _ _ (s7 _ _ hd6)
    have hD9 : upd H8 c (.dK kvC') D = some (.lst ((cI (dv2 n)).map V.int)) := by rw [upd_ne n2c]; exact s58 _ _ hD5
    generalize upd H8 c (.dK kvC') = H9 at *
    -- found
    refine ⟨_, rfl, _, rfl, _, rfl, c, _, rfl, tC8.get hC9 (List.mem_append_right _ List.mem_cons_self), _, _, rfl, rfl, .inl ⟨by omega, by omega⟩, ?_⟩
    have t9 := s9 _ _ ht
    refine ⟨_, rfl, E1, rfl, ⟨_, sql hd9⟩, for_list (xs := (cI (dv2 m)).map V.int) (fun j σ H' => (∃ y9 y10 y11 y12 y13, σ = [some (.ref t), some (.int (n : Int)), some (.int k), some (.ref o), some (.ref c), some (.int (m : Int)), some (.ref E1), some (.ref E2), some (.int (k * conF k m + (((dv2 m).take j).map fun d => lstF k d * k ^ (m / d - 1)).sum)), y9, y10, y11, y12, y13]) ∧ Same H9 H')
      ⟨⟨y9, y10, y11, y12, y13, by rw [List.take_zero]; show _ = [_, _, _, _, _, _, _, _, some (V.int (k * conF k m + 0)), _, _, _, _, _]; rw [Int.add_zero]; rfl⟩, Same.refl _⟩ (fun j σ H' _ h => sql (h.2 _ _ hd9)) (fun j x σ Ha hxa h => ?_) (fun σ Ha h => ?_)⟩
    · obtain ⟨⟨y9, y10, y11, y12, y13, rfl⟩, sa⟩ := h
      obtain ⟨d, hd, rfl⟩ := cI_get hxa
      have hmem := List.mem_of_getElem? hd
      obtain ⟨d2, d3, d4⟩ := mem_dv2.mp hmem
      have ddv : d ∈ dvs n := by
        obtain ⟨q1, q2, q3⟩ := mem_dvs.mp mdv
        exact mem_dvs.mpr ⟨by omega, by omega, Nat.mod_eq_zero_of_dvd (Nat.dvd_trans (Nat.dvd_of_mod_eq_zero d4) (Nat.dvd_of_mod_eq_zero q3))⟩
      -- short
      refine ⟨_, rfl, _, _, rfl, ⟨by decide, by decide, by omega, by omega⟩, fun E4 hE4 => ?_⟩
      refine lc_filter (lo := 2) (n := _) (fun x => decide ((d : Int) % x = 0)) hE4 (by omega) (fun l Hb TT FF hl sb hT hF => ?_) (fun Hb sb hdb => ?_)
      · refine ⟨rfl, _, rfl, _, rfl, _, _, rfl, rfl, by omega, rfl, _, rfl, ite2 (fun e => ⟨_, rfl, hT ?_⟩) (fun e => hF ?_)⟩
        · have := of_decide_eq_true e
          injection this with this
          exact decide_eq_true this
        · exact decide_eq_false fun z => e (decide_eq_true (by show V.int ((d : Int) % (2 + (l : Int))) = V.int 0; rw [z]))
      rw [show ((d : Int) - 2).toNat = d - 2 by omega] at hdb
      have sab := sa.trans sb
      -- mine
      refine ⟨_, rfl, _, rfl, t, _, rfl, tab.get (sab _ _ t9) ddv, _, rfl, _, rfl, Nat.zero_le _, fun nl hnl => ?_⟩
      have snl := same_new (o := .lst []) hnl
      have hnil := upd_same (H := Hb) (a := nl) (o := .lst [])
      generalize upd Hb nl (.lst []) = Hc at *
      refine ⟨_, _, dp_ints (sql (snl _ _ hdb)), dp_nil (sql hnil), shaped_ints _, shaped_ints _, .inr ⟨_, rfl, ?_⟩⟩
      refine ⟨_, _, rfl, rfl, .inl ⟨by omega, by omega⟩, _, _, rfl, rfl, ?_⟩
      have sac := sab.trans snl
      have hOc := sac _ _ hO9
      have hmd : m / d ∈ 1 :: (dv2 n).take i := pre_dv2 hm (rmem _ (List.mem_map.mpr ⟨d, hmem, rfl⟩))
      have edv : (m : Int) / (d : Int) = ((m / d : Nat) : Int) := (Int.natCast_ediv m d).symm
      have q2 := Nat.div_le_self m d
      have a1 := lst_abs kabs d (by omega) (by omega)
      have a2 := pow_abs (n := m / d - 1) kabs
      have b1 : (lstF k d).natAbs < 2 ^ 7000 := Nat.lt_of_le_of_lt a1 (Nat.pow_lt_pow_right (by decide) (by omega))
      have b2 : (k ^ (m / d - 1)).natAbs < 2 ^ 7000 := Nat.lt_of_le_of_lt a2 (Nat.pow_lt_pow_right (by decide) (by omega))
      have emine : cntF k d - k * (if PyData.eqv (dInts (((List.range (d - 2)).map fun i : Nat => (2 : Int) + (i : Int)).filter fun x => decide ((d : Int) % x = 0))) (dInts []) then (1 : Int) else 0) = lstF k d := by
        rw [eqv_nil]
        unfold cntF
        by_cases z : (dvs d).length = 2
        · rw [if_pos z, decide_eq_true ((short_iff d2).mpr z), if_pos rfl]
          omega
        · rw [if_neg z, decide_eq_false (fun y => z ((short_iff d2).mp y)), if_neg Bool.false_ne_true]
          omega
      have efound : (k * conF k m + (((dv2 m).take j).map fun d => lstF k d * k ^ (m / d - 1)).sum) + (cntF k d - k * (if PyData.eqv (dInts (((List.range (d - 2)).map fun i : Nat => (2 : Int) + (i : Int)).filter fun x => decide ((d : Int) % x = 0))) (dInts []) then (1 : Int) else 0)) * k ^ (m / d - 1) = k * conF k m + (((dv2 m).take (j + 1)).map fun d => lstF k d * k ^ (m / d - 1)).sum := by
        rw [emine, List.take_add_one, hd, Option.toList_some, List.map_append, List.sum_append, List.map_cons, List.map_nil, List.sum_cons, List.sum_nil]
        omega
      have gO : DGet Hc o (.int ((m : Int) / (d : Int))) (some (.int (k ^ (m / d - 1)))) := by
        rw [edv]
        exact tO.get hOc hmd
      have tj : (dv2 m).take (j + 1) = (dv2 m).take j ++ [d] := by rw [List.take_add_one, hd]; rfl
      refine ⟨_, rfl, _, rfl, _, rfl, _, rfl, _, rfl, _, _, rfl, rfl, wide_div (b := 20) (by omega) (by omega) (by decide) (by decide), o, .int (k ^ (m / d - 1)), rfl, gO, _, _, rfl, rfl, ?_, _, _, rfl, rfl, ⟨some (.int (d : Int)), some (.ref E4), some (.int (cntF k d - k * (if PyData.eqv (dInts (((List.range (d - 2)).map fun i : Nat => (2 : Int) + (i : Int)).filter fun x => decide ((d : Int) % x = 0))) (dInts []) then (1 : Int) else 0))), y12, y13, by rw [← efound]; rfl⟩, sac⟩
      · rw [emine]
        exact wide_mul b1 b2 (by decide) (by decide) (by decide)
    · obtain ⟨⟨y9, y10, y11, y12, y13, rfl⟩, sa⟩ := h
      rw [cI_len, List.take_length, pow_sum k m2]
      have tO9 := tO.put (d := m)
      have hOa := sa _ _ hO9
      refine ⟨_, rfl, _, rfl, _, rfl, o, _, rfl, DPut.k (k := Sum.inl (m : Int)) hOa (size_lt (by omega)), ?_⟩
      have nDo : D ≠ o := fun z => by rw [z, hO9] at hD9; cases hD9
      refine ⟨⟨_, _, _, _, _, _, _, _, _, rfl⟩, same_keep (s9.trans sa) fo, by rw [upd_ne nDo]; exact sa _ _ hD9, ⟨_, upd_same, Nat.le_trans (length_putK kvO (Sum.inl (m : Int)) _) (Nat.succ_le_succ lO), by rw [tkm]; exact tO9⟩, ⟨_, by rw [upd_ne noc.symm]; exact sa _ _ hC9, lC8, by rw [tkm]; exact tC8⟩⟩
  · obtain ⟨⟨y5, y6, y7, y8, y9, y10, y11, y12, y13, rfl⟩, sm, hD5, ⟨kvO, hO, lO, tO⟩, ⟨kvC, hC, lC, tC⟩⟩ := h
    rw [cI_len, List.take_length] at tO
    have mem : n ∈ 1 :: dv2 n := by
      by_cases z : n = 1
      · rw [z]
        exact List.mem_cons_self
      · exact List.mem_cons_of_mem _ (mem_dv2.mpr ⟨by omega, Nat.le_refl _, Nat.mod_self n⟩)
    exact ⟨_, rfl, _, rfl, o, _, rfl, tO.get hO mem, q H5 sm⟩

end
end Rn
namespace Rn
open PySem PySem.Spec PyProof.Rows L2
section
variable {P : Program} {w : World} {K : PySem.W.Frag} {mg : Str → Option Value} {base : Heap}
theorem prm_few : ∀ p ∈ [2, 3, 5, 7, 11, 13, 17, 19, 101, 199], 2 ≤ p ∧ pds p = [1] := by decide +kernel
theorem pp_few : ∀ p ∈ [2, 3, 5, 7, 11, 13], pds (p * p) = [1, p] := by decide +kernel
theorem ppp_few : ∀ p ∈ [2, 3, 5, 7, 11, 13], p < 6 → pds (p * p * p) = [1, p, p * p] := by decide +kernel
theorem pq_few : ∀ p ∈ [2, 3, 5, 7, 11, 13], ∀ q ∈ [2, 3, 5, 7, 11, 13], p ≠ q → pds (p * q) = [1, p, q] ∨ pds (p * q) = [1, q, p] := by decide +kernel
theorem prm_of {p : Nat} (h : p ∈ [2, 3, 5, 7, 11, 13, 17, 19, 101, 199]) : Prm p := ⟨(prm_few p h).1, by rw [(prm_few p h).2]⟩
theorem few_sub {p : Nat} (h : p ∈ [2, 3, 5, 7, 11, 13]) : p ∈ [2, 3, 5, 7, 11, 13, 17, 19, 101, 199] ∧ 2 ≤ p ∧ p ≤ 13 := by
  simp only [List.mem_cons, List.not_mem_nil, or_false] at h ⊢
  omega
theorem mem_cI {x : Int} {ds : List Nat} (h : x ∈ cI ds) : ∃ d ∈ ds, x = (d : Int) := by
  obtain ⟨d, hd, e⟩ := List.mem_map.mp h
  exact ⟨d, hd, e.symm⟩
theorem rg_one (n : Nat) : (((List.range n).map fun i : Nat => (1 : Int) + (i : Int)).filter fun x => decide ((n : Int) % x = 0)) = cI (dvs n) := by
  have e1 : ((List.range n).map fun i : Nat => (1 : Int) + (i : Int)) = cI ((List.range (n + 1)).filter fun d => decide (1 ≤ d)) := by
    have e2 : (List.range (n + 1)).filter (fun d => decide (1 ≤ d)) = (List.range n).map fun i => i + 1 := by
      rw [List.range_succ_eq_map, List.filter_cons, if_neg (by decide), List.filter_eq_self.mpr]
      intro x hx
      obtain ⟨y, _, rfl⟩ := List.mem_map.mp hx
      exact decide_eq_true (by show 1 ≤ y + 1; omega)
    rw [e2]
    unfold cI
    rw [List.map_map]
    exact List.map_congr_left fun i _ => by show (1 : Int) + (i : Int) = ((i + 1 : Nat) : Int); omega
  rw [e1]
  unfold cI dvs
  rw [List.filter_map, List.filter_filter]
  congr 1
  refine List.filter_congr fun x _ => ?_
  show (decide ((n : Int) % ((x : Nat) : Int) = 0) && decide (1 ≤ x)) = (decide (1 ≤ x) && decide (n % x = 0))
  have e3 : ((n : Int) % (x : Int) = 0) ↔ n % x = 0 := by
    rw [← Int.natCast_emod]
    omega
  rw [Bool.eq_iff_iff]
  simp only [Bool.and_eq_true, decide_eq_true_eq, e3]
  exact And.comm
/-- pairs of a number and its value, each a tuple of its own -/
def PairsAt (H : Hp) (ps : List Addr) (kvs : List (Key × V)) : Prop := Paired (fun p kv => H p = some (.tup [kV kv.1, kv.2])) ps kvs
theorem pairs_same {H H' : Hp} {ps : List Addr} {kvs : List (Key × V)} (h : PairsAt H ps kvs) (e : Same H H') : PairsAt H' ps kvs := by
  induction h with
  | nil => exact .nil
  | cons r _ ih => exact .cons (e _ _ r) ih
theorem pairs_snoc {H : Hp} {ps : List Addr} {kvs : List (Key × V)} {p : Addr} {kv : Key × V} (h : PairsAt H ps kvs) (hp : H p = some (.tup [kV kv.1, kv.2])) : PairsAt H (ps ++ [p]) (kvs ++ [kv]) := by
  induction h with
  | nil => exact .cons hp .nil
  | cons r _ ih => exact .cons r ih
theorem pairs_keep {H : Hp} {ps : List Addr} {kvs : List (Key × V)} {q : Addr} {o : HO} (h : PairsAt H ps kvs) (hn : ∀ x ∈ ps, x ≠ q) : PairsAt (upd H q o) ps kvs := by
  induction h with
  | nil => exact .nil
  | cons r _ ih => exact .cons (by rw [upd_ne (hn _ List.mem_cons_self)]; exact r) (ih fun x hx => hn x (List.mem_cons_of_mem _ hx))
theorem pairs_seq {K : PySem.W.Frag} {H : Hp} {ps : List Addr} {kvs : List (Key × V)} (h : PairsAt H ps kvs) : Paired (fun p kv => SqT K H p [kV kv.1, kv.2]) ps kvs := by
  induction h with
  | nil => exact .nil
  | cons r _ ih => exact .cons (sqt r) ih
def kvsOf (ds : List Nat) (F : Nat → Int) : List (Key × V) := ds.map fun d : Nat => (Sum.inl (d : Int), .int (F d))
theorem tab_merge (F : Nat → Int) : ∀ (ds es : List Nat) (kvs : List (Key × V)), Tab kvs es F → Tab (mergeK kvs (kvsOf ds F)) (es ++ ds) F
  | [], es, kvs, h => by rw [List.append_nil]; exact h
  | d :: ds, es, kvs, h => by
    have := tab_merge F ds (es ++ [d]) _ (h.put (d := d))
    rw [List.append_assoc] at this
    exact this
def sp_law (K : PySem.W.Frag) : Sp := fun vs H Q _ => ∃ (a : Addr) (ns : List Int), vs = [.ref a] ∧ SqL K H a (ns.map V.int) ∧ ns.length ≤ 63 ∧ ∀ H', Q (.bl true) H'
abbrev lvl_law : Nat := 4
theorem ok_law (T : Txt K mg) : FnOk P w K mg base CX0 lvl_law T.f_law T.d_law ["script"] (sp_law K) := by
  have G_law_bag := (ok_law_bag (P := P) (w := w) (base := base) T).mono (by decide : 1 ≤ 3)
  have G_law_draw := (ok_law_draw (P := P) (w := w) (base := base) T).mono (by decide : 1 ≤ 3)
  have G_law_power := (ok_law_power (P := P) (w := w) (base := base) T).mono (by decide : 1 ≤ 3)
  have G_law_all := (ok_law_all (P := P) (w := w) (base := base) T).mono (by decide : 1 ≤ 3)
  have G_law_by_primes := (ok_law_by_primes (P := P) (w := w) (base := base) T).mono (by decide : 2 ≤ 3)
  have G_law_by_square := (ok_law_by_square (P := P) (w := w) (base := base) T).mono (by decide : 2 ≤ 3)
  have G_law_by_cube := (ok_law_by_cube (P := P) (w := w) (base := base) T).mono (by decide : 2 ≤ 3)
  have G_count_unsplittable := (ok_count_unsplittable (P := P) (w := w) (base := base) T)
  refine T.F_law.ok sc_law (fun vs H Q E h => ?_) (fun cdv A outer s H vs Q E hr h => ?_)
  · obtain ⟨a, ns, rfl, _⟩ := h
    rfl
  obtain ⟨sa, ns, rfl, hS, hl, q⟩ := h
  refine ⟨_, (pss_cons (ps_set (i := 1) sc_law.nd rfl (Or.inl rfl) (pe_call G_law_bag hr (by rfl) T.g_law_bag T.F_law_bag.kp T.b_law_bag .nil pass0 (pa_cons (pv 0) pa_nil)))
      (pss_cons (ps_for PassesOwn.never rfl (pi_range1 (by rfl) T.m_range (pa_cons (pe_op op_add pe_int (pe_callB (call_min2 rfl) (by rfl) T.m_min (by decide +kernel) (pa_cons pe_int (pa_cons (pe_callB call_len_seq (by rfl) T.m_len PySem.boot_len (pa_cons (pv 0) pa_nil)) pa_nil)))) pa_nil)) (pg_name (i := 2) sc_law.nd rfl (Or.inl rfl))
      (pss_cons (ps_set (i := 3) sc_law.nd rfl (Or.inr rfl) (pe_ix ix_tup (pe_tup (pa_cons (pe_op op_add pe_int (pe_call G_law_draw hr (by rfl) T.g_law_draw T.F_law_draw.kp T.b_law_draw .nil pass0 (pa_cons (pv 1) (pa_cons pe_int pa_nil)))) (pa_cons (pe_op op_add pe_int (pe_call G_law_draw hr (by rfl) T.g_law_draw T.F_law_draw.kp T.b_law_draw .nil pass0 (pa_cons (pv 1) (pa_cons pe_int pa_nil)))) pa_nil))) (pe_call G_law_draw hr (by rfl) T.g_law_draw T.F_law_draw.kp T.b_law_draw .nil pass0 (pa_cons (pv 1) (pa_cons pe_int pa_nil))) (fun _ _ => rfl)))
      (pss_cons (ps_set (i := 4) sc_law.nd rfl (Or.inl rfl) (pe_ix ix_tup (pe_tup (pa_cons pe_int (pa_cons pe_int (pa_cons pe_int (pa_cons pe_int (pa_cons pe_int (pa_cons pe_int (pa_cons pe_int (pa_cons pe_int (pa_cons pe_int (pa_cons pe_int pa_nil))))))))))) (pe_call G_law_draw hr (by rfl) T.g_law_draw T.F_law_draw.kp T.b_law_draw .nil pass0 (pa_cons (pv 1) (pa_cons pe_int pa_nil))) (fun _ _ => rfl)))
      (pss_cons (ps_if (pt_cmpR op_ne (pe_call G_count_unsplittable hr (by rfl) T.g_count_unsplittable T.F_count_unsplittable.kp T.b_count_unsplittable .nil pass0 (pa_cons (pv 4) (pa_cons (pv 3) pa_nil))) (pe_call G_law_power hr (by rfl) T.g_law_power T.F_law_power.kp T.b_law_power .nil pass0 (pa_cons (pv 3) (pa_cons (pe_op op_sub (pv 4) pe_int) pa_nil))) (nomark _))
      (pss_one (ps_ret pe_bl))
      pss_nil)
      (pss_cons (ps_set (i := 5) sc_law.nd rfl (Or.inl rfl) (pe_tup (pa_cons pe_int (pa_cons pe_int (pa_cons pe_int (pa_cons pe_int (pa_cons pe_int (pa_cons pe_int pa_nil))))))))
      (pss_cons (ps_par (i := 6) (j := 7) (by rfl) sc_law.nd rfl rfl (by decide) rfl rfl (pa_cons (pe_ix ix_tup (pv 5) (pe_call G_law_draw hr (by rfl) T.g_law_draw T.F_law_draw.kp T.b_law_draw .nil pass0 (pa_cons (pv 1) (pa_cons pe_int pa_nil))) (fun _ _ => rfl)) (pa_cons (pe_ix ix_tup (pv 5) (pe_call G_law_draw hr (by rfl) T.g_law_draw T.F_law_draw.kp T.b_law_draw .nil pass0 (pa_cons (pv 1) (pa_cons pe_int pa_nil))) (fun _ _ => rfl)) pa_nil)) (by rfl))
      (pss_cons (ps_set (i := 8) sc_law.nd rfl (Or.inl rfl) (pe_call G_law_by_primes hr (by rfl) T.g_law_by_primes T.F_law_by_primes.kp T.b_law_by_primes .nil pass0 (pa_cons (pv 6) (pa_cons (pv 7) (pa_cons (pv 3) pa_nil)))))
      (Evl.pss_cut (ps_if (PW.pt (pw_and (pt_cmpR op_ne (pv 6) (pv 7) (nomark _)) (pw_and1 (pt_cmpR op_ne (pe_call G_count_unsplittable hr (by rfl) T.g_count_unsplittable T.F_count_unsplittable.kp T.b_count_unsplittable .nil pass0 (pa_cons (pe_op op_mul (pv 6) (pv 7)) (pa_cons (pv 3) pa_nil))) (pv 8) (nomark _)))))
      (pss_one (ps_ret pe_bl))
      pss_nil)
      (pss_cons (ps_if (pt_cmpR op_ne (pe_call G_count_unsplittable hr (by rfl) T.g_count_unsplittable T.F_count_unsplittable.kp T.b_count_unsplittable .nil pass0 (pa_cons (pe_op op_mul (pv 6) (pv 6)) (pa_cons (pv 3) pa_nil))) (pe_call G_law_by_square hr (by rfl) T.g_law_by_square T.F_law_by_square.kp T.b_law_by_square .nil pass0 (pa_cons (pv 6) (pa_cons (pv 3) pa_nil))) (nomark _))
      (pss_one (ps_ret pe_bl))
      pss_nil)
      (Evl.pss_cut (ps_if (PW.pt (pw_and (pt_cmpR op_lt (pv 6) pe_int (nomark _)) (pw_and1 (pt_cmpR op_ne (pe_call G_count_unsplittable hr (by rfl) T.g_count_unsplittable T.F_count_unsplittable.kp T.b_count_unsplittable .nil pass0 (pa_cons (pe_op op_mul (pe_op op_mul (pv 6) (pv 6)) (pv 6)) (pa_cons (pv 3) pa_nil))) (pe_call G_law_by_cube hr (by rfl) T.g_law_by_cube T.F_law_by_cube.kp T.b_law_by_cube .nil pass0 (pa_cons (pv 6) (pa_cons (pv 3) pa_nil))) (nomark _)))))
      (pss_one (ps_ret pe_bl))
      pss_nil)
      (pss_cons (ps_set (i := 9) sc_law.nd rfl (Or.inl rfl) (pe_ix ix_tup (pe_tup (pa_cons pe_int (pa_cons pe_int (pa_cons pe_int (pa_cons pe_int (pa_cons pe_int (pa_cons pe_int (pa_cons pe_int pa_nil)))))))) (pe_call G_law_draw hr (by rfl) T.g_law_draw T.F_law_draw.kp T.b_law_draw .nil pass0 (pa_cons (pv 1) (pa_cons pe_int pa_nil))) (fun _ _ => rfl)))
      (pss_cons (ps_set (i := 10) sc_law.nd rfl (Or.inr rfl) (pe_ix ix_tup (pe_tup (pa_cons (pe_op op_add pe_int (pe_call G_law_draw hr (by rfl) T.g_law_draw T.F_law_draw.kp T.b_law_draw .nil pass0 (pa_cons (pv 1) (pa_cons pe_int pa_nil)))) (pa_cons (pv 9) pa_nil))) (pe_call G_law_draw hr (by rfl) T.g_law_draw T.F_law_draw.kp T.b_law_draw .nil pass0 (pa_cons (pv 1) (pa_cons pe_int pa_nil))) (fun _ _ => rfl)))
      (pss_cons (ps_setLc (i := 11) (own := [("number", 13)]) (g := gName 13)  rfl sc_law.nd rfl rfl (sw_true rfl rfl rfl (by decide +kernel)) (pi_range2 (by rfl) T.m_range (pa_cons pe_int (pa_cons (pe_op op_add (pv 10) pe_int) pa_nil))) (blkOk_by (N := ["script", "bag", "turn", "many", "prime", "few", "one", "two", "due", "rich", "size", "numbers", "told", "number"]) (sc := defScope s_law) (by decide +kernel)) (fun _ _ _ _ _ => (pg_name (i := 13) sc_law.nd rfl (Or.inl rfl))) (fun _ _ _ _ _ => (pts_one (pt_cmpR op_eq (pe_op op_mod (pv 10) (pv 13)) pe_int (nomark _)))) (fun _ _ _ _ _ => (pv 13)))
      (pss_cons (ps_set (i := 12) sc_law.nd rfl (Or.inl rfl) (pe_callTy (call_dictP rfl) (by rfl) T.m_dict (by decide +kernel) (pa_cons (pe_lc (own := [("number", 13)]) (g := gName 13) (tt := tYes) rfl sc_law.nd (pi_list (pv 11)) (blkOk_by (N := ["script", "bag", "turn", "many", "prime", "few", "one", "two", "due", "rich", "size", "numbers", "told", "number"]) (sc := defScope s_law) (by decide +kernel)) (fun _ _ _ _ _ => (pg_name (i := 13) sc_law.nd rfl (Or.inl rfl))) (fun _ _ _ _ _ => pts_nil) (fun _ _ _ _ _ => (pe_tup (pa_cons (pv 13) (pa_cons (pe_call G_count_unsplittable hr (by rfl) T.g_count_unsplittable T.F_count_unsplittable.kp T.b_count_unsplittable .nil pass0 (pa_cons (pv 13) (pa_cons (pv 3) pa_nil))) pa_nil))))) pa_nil)))
      (pss_one (ps_if (pt_cmpR op_ne (pe_call G_law_all hr (by rfl) T.g_law_all T.F_law_all.kp T.b_law_all .nil pass0 (pa_cons (pv 12) (pa_cons (pv 10) (pa_cons (pv 3) pa_nil)))) (pe_call G_law_power hr (by rfl) T.g_law_power T.F_law_power.kp T.b_law_power .nil pass0 (pa_cons (pv 3) (pa_cons (pe_op op_sub (pv 10) pe_int) pa_nil))) (nomark _))
      (pss_one (ps_ret pe_bl))
      pss_nil))))))))))))))))
      (pss_one (ps_ret pe_bl)))), ?_⟩
  refine ⟨_, rfl, sa, ns, rfl, hS, hl, fun H1 a g s1 _ _ S1 => ?_⟩
  have hlen : (ns.map V.int).length ≤ 63 := by rw [List.length_map]; exact hl
  have hmin : ∀ z : Int, (if z < 6 then z else 6) ≤ 6 := fun z => by split <;> omega
  have hmin0 : 0 ≤ (if (((ns.map V.int).length : Nat) : Int) < 6 then (((ns.map V.int).length : Nat) : Int) else 6) := by split <;> omega
  have hm1 := hmin (((ns.map V.int).length : Nat) : Int)
  refine ⟨_, rfl, sa, _, rfl, .inl (s1.seq hS), _, _, rfl, _, _, rfl, rfl, _, rfl, by omega, by omega, ?_⟩
  refine for_range (lo := 0) (n := _)
    (fun i σ H' => (∃ y2 y3 y4 y5 y6 y7 y8 y9 y10 y11 y12 y13, σ = [some (.ref sa), some (.ref a), y2, y3, y4, y5, y6, y7, y8, y9, y10, y11, y12, y13]) ∧ Bdv a g (100 * i) H1 H') ⟨⟨_, _, _, _, _, _, _, _, _, _, _, _, rfl⟩, Bdv.refl⟩ (fun i σ H2 hi h => ?_) (fun σ H2 h => ?_)
  · obtain ⟨⟨y2, y3, y4, y5, y6, y7, y8, y9, y10, y11, y12, y13, rfl⟩, A2⟩ := h
    have hi' : (i : Int) < 13 := by omega
    have S2 := A2.src 0 S1
    -- many
    refine ⟨_, rfl, a, g, _, 4, rfl, S2, by omega, by decide, by decide, fun H3 r1 A3 l3 u3 => ⟨_, _, rfl, rfl, ?_⟩⟩
    have S3 := A3.src _ S2
    refine ⟨_, rfl, a, g, _, 100, rfl, S3, by omega, by decide, by decide, fun H4 r2 A4 l4 u4 => ⟨_, _, rfl, rfl, size_le (by show 2 ≤ 100000; decide), fun t ht => ?_⟩⟩
    have B4 : Bdv a g 2 H2 H4 := A3.trans A4 (by decide)
    have S4 := B4.src _ S2
    have nt := S4.new1 ht
    have B5 : Bdv a g 2 H2 (upd H4 t (.tup [.int (1 + r1), .int (1 + r2)])) := B4.trans (Bdv.of (same_new ht)) (by decide)
    have et : hid a g (upd H4 t (.tup [.int (1 + r1), .int (1 + r2)])) t = some (.tup (([1 + r1, 1 + r2] : List Int).map V.int)) := by
      rw [hid_oth nt.1 nt.2, upd_same]
      rfl
    generalize upd H4 t (.tup [.int (1 + r1), .int (1 + r2)]) = H5 at *
    have S5 := B5.src _ S2
    refine ⟨_, rfl, a, g, _, 2, rfl, S5, by omega, by decide, by decide, fun H6 r6 A6 l6 u6 => ?_⟩
    obtain ⟨k, hmem, _, hat⟩ := at_int (ns := [1 + r1, 1 + r2]) l6 u6
    have kb : 1 ≤ k ∧ k ≤ 100 := by
      simp only [List.mem_cons, List.not_mem_nil, or_false] at hmem
      omega
    have B6 : Bdv a g 3 H2 H6 := B5.trans A6 (by decide)
    have S6 := B6.src _ S2
    refine ⟨t, _, r6, .int k, rfl, rfl, sqt (hid_get (A6.same _ _ et)).1, hat, ?_⟩
    clear hat hmem et nt ht
    obtain ⟨k1, k2⟩ := kb
    have kabs : k.natAbs ≤ 2 ^ 7 := by omega
    -- prime
    refine ⟨size_le (by show 10 ≤ 100000; decide), fun t ht => ?_⟩
    have nt := S6.new1 ht
    have B7 : Bdv a g 3 H2 (upd H6 t (.tup ((cI [2, 3, 5, 7, 11, 13, 17, 19, 101, 199]).map V.int))) := B6.trans (Bdv.of (same_new ht)) (by decide)
    have et : hid a g (upd H6 t (.tup ((cI [2, 3, 5, 7, 11, 13, 17, 19, 101, 199]).map V.int))) t = some (.tup ((cI [2, 3, 5, 7, 11, 13, 17, 19, 101, 199]).map V.int)) := by rw [hid_oth nt.1 nt.2, upd_same]
    change tCall _ _ _ _ _ (upd H6 t (.tup ((cI [2, 3, 5, 7, 11, 13, 17, 19, 101, 199]).map V.int))) _
    generalize upd H6 t (.tup ((cI [2, 3, 5, 7, 11, 13, 17, 19, 101, 199]).map V.int)) = H7 at *
    have S7 := B7.src _ S2
    refine ⟨_, rfl, a, g, _, 10, rfl, S7, by omega, by decide, by decide, fun H8 r8 A8 l8 u8 => ?_⟩
    obtain ⟨x, hmem, _, hat⟩ := at_int (ns := cI [2, 3, 5, 7, 11, 13, 17, 19, 101, 199]) l8 u8
    obtain ⟨p, hp, rfl⟩ := mem_cI hmem
    have B8 : Bdv a g 4 H2 H8 := B7.trans A8 (by decide)
    have S8 := B8.src _ S2
    refine ⟨t, _, r8, .int (p : Int), rfl, rfl, sqt (hid_get (A8.same _ _ et)).1, hat, ?_⟩
    clear hat hmem et nt ht
    have pr := prm_of hp
    have pb : p ≤ 199 := by
      simp only [List.mem_cons, List.not_mem_nil, or_false] at hp
      omega
    have p2 := pr.1
    refine ⟨_, rfl, _, rfl, p, k, rfl, by omega, by omega, k1, k2, fun H9 s9 => ?_⟩
    refine ⟨_, rfl, _, rfl, _, _, rfl, rfl, k, p - 1, 7, ?_, kabs, by decide, by omega, rfl, _, rfl, ne_val (by rw [cnt_p pr]) ?_⟩
    · rw [show ((p - 1 : Nat) : Int) = (p : Int) - 1 by omega]
      rfl
    have B9 : Bdv a g 4 H2 H9 := B8.trans (Bdv.of s9) (by decide)
    have S9 := B9.src _ S2
    -- few
    refine ⟨size_le (by show 6 ≤ 100000; decide), fun t ht => ?_⟩
    have nt := S9.new1 ht
    have Ba : Bdv a g 4 H2 (upd H9 t (.tup [.int 2, .int 3, .int 5, .int 7, .int 11, .int 13])) := B9.trans (Bdv.of (same_new ht)) (by decide)
    have et : hid a g (upd H9 t (.tup [.int 2, .int 3, .int 5, .int 7, .int 11, .int 13])) t = some (.tup ((cI [2, 3, 5, 7, 11, 13]).map V.int)) := by
      rw [hid_oth nt.1 nt.2, upd_same]
      rfl
    generalize upd H9 t (.tup [.int 2, .int 3, .int 5, .int 7, .int 11, .int 13]) = Ha at *
    have Sa := Ba.src _ S2
    -- one, two
    refine ⟨_, rfl, _, rfl, a, g, _, 6, rfl, Sa, by omega, by decide, by decide, fun Hb r1 Ab l1 u1 => ?_⟩
    obtain ⟨x, hmem, _, hat⟩ := at_int (ns := cI [2, 3, 5, 7, 11, 13]) l1 u1
    obtain ⟨p1, hp1, rfl⟩ := mem_cI hmem
    have Bb : Bdv a g 5 H2 Hb := Ba.trans Ab (by decide)
    have Sb := Bb.src _ S2
    have etb := Ab.same _ _ et
    refine ⟨t, _, r1, .int (p1 : Int), rfl, rfl, sqt (hid_get etb).1, hat, ?_⟩
    clear hat hmem
    refine ⟨_, rfl, _, rfl, a, g, _, 6, rfl, Sb, by omega, by decide, by decide, fun Hc r2 Ac l2 u2 => ?_⟩
    obtain ⟨x, hmem, _, hat⟩ := at_int (ns := cI [2, 3, 5, 7, 11, 13]) l2 u2
    obtain ⟨q1, hq1, rfl⟩ := mem_cI hmem
    have Bc : Bdv a g 6 H2 Hc := Bb.trans Ac (by decide)
    have Sc := Bc.src _ S2
    refine ⟨t, _, r2, .int (q1 : Int), rfl, rfl, sqt (hid_get (Ac.same _ _ etb)).1, hat, _, _, rfl, ?_⟩
    clear hat hmem et etb
    obtain ⟨fp1, fp2, fp3⟩ := few_sub hp1
    obtain ⟨fq1, fq2, fq3⟩ := few_sub hq1
    have prp := prm_of fp1
    have prq := prm_of fq1
    have h1 : 2 * 2 ≤ p1 * q1 := Nat.mul_le_mul fp2 fq2
    have h2 : p1 * q1 ≤ 13 * 13 := Nat.mul_le_mul fp3 fq3
    have h3 : 2 * 2 ≤ p1 * p1 := Nat.mul_le_mul fp2 fp2
    have h4 : p1 * p1 ≤ 13 * 13 := Nat.mul_le_mul fp3 fp3
    -- due
    refine ⟨_, rfl, _, rfl, _, rfl, p1, q1, k, rfl, fp2, fp3, fq2, fq3, k1, k2, ?_⟩
    refine ⟨fun σ' H' => σ' = [some (.ref sa), some (.ref a), some (.int (0 + (i : Int))), some (.int k), some (.int (p : Int)), some (.ref t), some (.int (p1 : Int)), some (.int (q1 : Int)), some (.int (k ^ (p1 * q1 - 1) - 2 * k ^ (p1 + q1 - 2) + k)), y9, y10, y11, y12, y13] ∧ Same Hc H', ?_, fun σ' Hd hd => ?_⟩
    · refine ⟨_, rfl, _, rfl, rfl, _, rfl, ite2 (fun e => ?_) (fun _ => ⟨rfl, Same.refl _⟩)⟩
      have hne : p1 ≠ q1 := fun z => by
        rw [z, decide_eq_true rfl] at e
        cases e
      have epq : cntF k (p1 * q1) = k ^ (p1 * q1 - 1) - 2 * k ^ (p1 + q1 - 2) + k := by
        rcases pq_few p1 hp1 q1 hq1 hne with z | z
        · exact cnt_pq prp prq (by rw [z])
        · exact cnt_pq prp prq (by rw [z]; exact List.Perm.cons 1 (List.Perm.swap p1 q1 []))
      refine ⟨_, rfl, _, rfl, _, _, rfl, rfl, .inl ⟨by omega, by omega⟩, _, rfl, p1 * q1, k, ?_, by omega, by omega, k1, k2, fun Hd sd => ?_⟩
      · rw [Int.natCast_mul]
        rfl
      · exact ⟨_, rfl, rfl, _, rfl, ne_val (by rw [epq]) ⟨rfl, sd⟩⟩
    obtain ⟨rfl, sd⟩ := hd
    -- one * one
    refine ⟨_, rfl, _, rfl, _, _, rfl, rfl, .inl ⟨by omega, by omega⟩, _, rfl, p1 * p1, k, ?_, by omega, by omega, k1, k2, fun He se => ?_⟩
    · rw [Int.natCast_mul]
      rfl
    refine ⟨_, rfl, _, rfl, p1, k, rfl, fp2, fp3, k1, k2, rfl, _, rfl, ne_val (by rw [cnt_pp prp (by rw [pp_few p1 hp1])]) ?_⟩
    have sde := sd.trans se
    -- one < 6
    refine ⟨fun σ' H' => σ' = [some (.ref sa), some (.ref a), some (.int (0 + (i : Int))), some (.int k), some (.int (p : Int)), some (.ref t), some (.int (p1 : Int)), some (.int (q1 : Int)), some (.int (k ^ (p1 * q1 - 1) - 2 * k ^ (p1 + q1 - 2) + k)), y9, y10, y11, y12, y13] ∧ Same Hc H', ?_, fun σ' Hf hf => ?_⟩
    · refine ⟨_, rfl, _, _, rfl, rfl, _, rfl, ite2 (fun e => ?_) (fun _ => ⟨rfl, sde⟩)⟩
      have h6 : p1 < 6 := by have := of_decide_eq_true e; omega
      have h5 : p1 ≤ 5 := by omega
      have h7 : p1 * p1 ≤ 5 * 5 := Nat.mul_le_mul h5 h5
      have h8 : p1 * p1 * p1 ≤ 25 * 5 := Nat.mul_le_mul h7 h5
      have h9 : 4 * 2 ≤ p1 * p1 * p1 := Nat.mul_le_mul h3 fp2
      refine ⟨_, rfl, _, rfl, _, _, rfl, rfl, .inl ⟨by omega, by omega⟩, _, rfl, _, _, rfl, rfl, .inr ⟨by omega, by omega⟩, _, rfl, p1 * p1 * p1, k, ?_, by omega, by omega, k1, k2, fun Hf sf => ?_⟩
      · rw [Int.natCast_mul, Int.natCast_mul]
        rfl
      · exact ⟨_, rfl, _, rfl, p1, k, rfl, fp2, h5, k1, k2, rfl, _, rfl, ne_val (by rw [cnt_ppp prp (by rw [pp_few p1 hp1]) (by rw [ppp_few p1 hp1 h6])]) ⟨rfl, sde.trans sf⟩⟩
    obtain ⟨rfl, sf⟩ := hf
    have Bf : Bdv a g 6 H2 Hf := Bc.trans (Bdv.of sf) (by decide)
    have Sf := Bf.src _ S2
    -- rich
    refine ⟨size_le (by show 7 ≤ 100000; decide), fun u hu => ?_⟩
    have nu := Sf.new1 hu
    have Bg : Bdv a g 6 H2 (upd Hf u (.tup [.int 12, .int 30, .int 60, .int 72, .int 96, .int 120, .int 180])) := Bf.trans (Bdv.of (same_new hu)) (by decide)
    have eu : hid a g (upd Hf u (.tup [.int 12, .int 30, .int 60, .int 72, .int 96, .int 120, .int 180])) u = some (.tup ((cI [12, 30, 60, 72, 96, 120, 180]).map V.int)) := by
      rw [hid_oth nu.1 nu.2, upd_same]
      rfl
    generalize upd Hf u (.tup [.int 12, .int 30, .int 60, .int 72, .int 96, .int 120, .int 180]) = Hg at *
    have Sg := Bg.src _ S2
    refine ⟨_, rfl, a, g, _, 7, rfl, Sg, by omega, by decide, by decide, fun Hh r3 Ah l3 u3 => ?_⟩
    obtain ⟨x, hmem, _, hat⟩ := at_int (ns := cI [12, 30, 60, 72, 96, 120, 180]) l3 u3
    obtain ⟨rich, hrich, rfl⟩ := mem_cI hmem
    have rb : 1 ≤ rich ∧ rich ≤ 180 := by
      simp only [List.mem_cons, List.not_mem_nil, or_false] at hrich
      omega
    have Bh : Bdv a g 7 H2 Hh := Bg.trans Ah (by decide)
    have Sh := Bh.src _ S2
    refine ⟨u, _, r3, .int (rich : Int), rfl, rfl, sqt (hid_get (Ah.same _ _ eu)).1, hat, ?_⟩
    clear hat hmem eu nu hu
    -- size
    refine ⟨_, rfl, a, g, _, 200, rfl, Sh, by omega, by decide, by decide, fun Hi r4 Ai l4 u4 => ⟨_, _, rfl, rfl, _, rfl, size_le (by show 2 ≤ 100000; decide), fun u hu => ?_⟩⟩
    have Bi : Bdv a g 8 H2 Hi := Bh.trans Ai (by decide)
    have Si := Bi.src _ S2
    have nu := Si.new1 hu
    have Bj : Bdv a g 8 H2 (upd Hi u (.tup [.int (1 + r4), .int (rich : Int)])) := Bi.trans (Bdv.of (same_new hu)) (by decide)
    have eu : hid a g (upd Hi u (.tup [.int (1 + r4), .int (rich : Int)])) u = some (.tup (([1 + r4, (rich : Int)] : List Int).map V.int)) := by
      rw [hid_oth nu.1 nu.2, upd_same]
      rfl
    generalize upd Hi u (.tup [.int (1 + r4), .int (rich : Int)]) = Hj at *
    have Sj := Bj.src _ S2
    refine ⟨_, rfl, a, g, _, 2, rfl, Sj, by omega, by decide, by decide, fun Hk r5 Ak l5 u5 => ?_⟩
    obtain ⟨x, hmem, _, hat⟩ := at_int (ns := [1 + r4, (rich : Int)]) l5 u5
    obtain ⟨n, rfl⟩ : ∃ n : Nat, x = (n : Int) := ⟨x.toNat, by
      simp only [List.mem_cons, List.not_mem_nil, or_false] at hmem
      omega⟩
    have nb : 1 ≤ n ∧ n ≤ 200 := by
      simp only [List.mem_cons, List.not_mem_nil, or_false] at hmem
      omega
    have Bk : Bdv a g 9 H2 Hk := Bj.trans Ak (by decide)
    have Sk := Bk.src _ S2
    refine ⟨u, _, r5, .int (n : Int), rfl, rfl, sqt (hid_get (Ak.same _ _ eu)).1, hat, ?_⟩
    clear hat hmem eu nu hu
    obtain ⟨nb1, nb2⟩ := nb
    -- numbers
    refine ⟨_, rfl, _, _, rfl, rfl, _, _, rfl, ⟨by decide, by decide, by omega, by omega⟩, fun D hD => ?_⟩
    refine lc_filter (lo := 1) (n := _) (fun x => decide ((n : Int) % x = 0)) hD (by omega) (fun j Hl TT FF hj sm hT hF => ?_) (fun Hl sl hd => ?_)
    · refine ⟨rfl, _, rfl, _, rfl, _, _, rfl, rfl, by omega, rfl, _, rfl, ite2 (fun e => ⟨_, rfl, hT ?_⟩) (fun e => hF ?_)⟩
      · have := of_decide_eq_true e
        injection this with this
        exact decide_eq_true this
      · exact decide_eq_false fun z => e (decide_eq_true (by show V.int ((n : Int) % (1 + (j : Int))) = V.int 0; rw [z]))
    rw [show ((n : Int) + 1 - 1).toNat = n by omega, rg_one n] at hd
    have ld := dvs_len n
    -- told
    refine ⟨_, rfl, D, rfl, ⟨_, sql hd⟩, fun E1 hE1 => ?_⟩
    refine lc_list (xs := (cI (dvs n)).map V.int) (fun j H' => ∃ ps : List Addr, Same Hl H' ∧ H' E1 = some (.lst (ps.map V.ref)) ∧ ps.length = j ∧ (∀ x ∈ ps, x ≠ E1) ∧ PairsAt H' ps (kvsOf ((dvs n).take j) (cntF k)))
      ⟨[], same_new hE1, upd_same, rfl, (fun _ z => nomatch z), .nil⟩ (fun j H' _ h => by obtain ⟨_, sm, _⟩ := h; exact sql (sm _ _ hd)) (fun j x Hm hx h => ?_) (fun Hm h => ?_)
    · obtain ⟨ps, sm, hp, hpl, hpn, hpp⟩ := h
      obtain ⟨d, hd', rfl⟩ := cI_get hx
      have hj : j < (dvs n).length := (List.getElem?_eq_some_iff.mp hd').1
      obtain ⟨d1, d2, d3⟩ := mem_dvs.mp (List.mem_of_getElem? hd')
      refine ⟨rfl, yes_thn ⟨_, rfl, _, rfl, _, rfl, d, k, rfl, by omega, by omega, k1, k2, fun Hn sn => ⟨size_le (by show 2 ≤ 100000; decide), fun w hw => ?_⟩⟩⟩
      have sw := same_new (o := .tup [.int (d : Int), .int (cntF k d)]) hw
      have ewn : w ≠ E1 := fun z => by rw [z, sn _ _ hp] at hw; cases hw
      have snw := sn.trans sw
      refine ⟨_, snw _ _ hp, size_lt (by rw [List.length_map]; omega), ps ++ [w], same_keep (sm.trans snw) hE1, by rw [upd_same, List.map_append]; rfl, by rw [List.length_append, hpl]; rfl, fun x hx => ?_, ?_⟩
      · rcases List.mem_append.mp hx with z | z
        · exact hpn x z
        · rw [List.mem_singleton.mp z]; exact ewn
      · have tj : (dvs n).take (j + 1) = (dvs n).take j ++ [d] := by rw [List.take_add_one, hd']; rfl
        rw [tj]
        unfold kvsOf
        rw [List.map_append]
        exact pairs_snoc (pairs_keep (pairs_same hpp snw) hpn) (by rw [upd_ne ewn]; exact upd_same)
    obtain ⟨ps, sm, hp, hpl, hpn, hpp⟩ := h
    rw [cI_len, List.take_length] at hpp
    refine ⟨E1, ps, kvsOf (dvs n) (cntF k), rfl, sql hp, pairs_seq hpp, fun o ho => ?_⟩
    have so := same_new (o := .dK (mergeK [] (kvsOf (dvs n) (cntF k)))) ho
    have tab := tab_merge (cntF k) (dvs n) [] [] (fun _ z => nomatch z)
    have eo := upd_same (H := Hm) (a := o) (o := .dK (mergeK [] (kvsOf (dvs n) (cntF k))))
    generalize upd Hm o (.dK (mergeK [] (kvsOf (dvs n) (cntF k)))) = Ho at *
    refine ⟨_, rfl, _, rfl, _, rfl, o, n, k, _, rfl, eo, tab, nb1, nb2, k1, k2, fun Hq sq => ?_⟩
    refine ⟨_, rfl, _, rfl, _, _, rfl, rfl, k, n - 1, 7, ?_, kabs, by decide, by omega, rfl, _, rfl, ne_val rfl ⟨⟨_, _, _, _, _, _, _, _, _, _, _, _, rfl⟩, A2.trans (Bk.trans (Bdv.of (sl.trans (sm.trans (so.trans sq)))) (Int.le_refl _)) (by omega)⟩⟩
    rw [show ((n - 1 : Nat) : Int) = (n : Int) - 1 by omega]
    rfl
  · exact q _

end
end Rn
namespace Rn
open PySem PySem.Spec PyProof.Rows L2
theorem all_mk {l : PySem.W.OpenLaw} {w : World} {K : PySem.W.Frag} {h : Heap} {mg : Str → Option Value} {fa f0 f1 f2 f3 f4 f5 f6 f7 f8 f9 f10 f11 : Addr} (X : K.In h) (G : h.Ns mainGlobals mg) (hfa : mg "law" = some (.ref fa))
    {od0 an0 od1 an1 od2 an2 od3 an3 od4 an4 od5 an5 od6 an6 od7 an7 od8 an8 od9 an9 od10 an10 od11 an11 : Option Addr} {sl0 sl1 sl2 sl3 sl4 sl5 sl6 sl7 sl8 sl9 sl10 sl11 : Array (Option Value)} {oc0 kV0 dc0 pm0 cd0 ct0 oc1 kV1 dc1 pm1 cd1 ct1 oc2 kV2 dc2 pm2 cd2 ct2 oc3 kV3 dc3 pm3 cd3 ct3 oc4 kV4 dc4 pm4 cd4 ct4 oc5 kV5 dc5 pm5 cd5 ct5 oc6 kV6 dc6 pm6 cd6 ct6 oc7 kV7 dc7 pm7 cd7 ct7 oc8 kV8 dc8 pm8 cd8 ct8 oc9 kV9 dc9 pm9 cd9 ct9 oc10 kV10 dc10 pm10 cd10 ct10 oc11 kV11 dc11 pm11 cd11 ct11 : Value}
    (a0 : PySem.W.nsIn K mainGlobals "number_power" = some (some (.ref f0))) (l0 : K.lookup f0 = some ⟨oc0, od0, .func (PySem.W.fnOf "number_power" "number_power" (defArgs s_number_power) (defBody s_number_power) (defScope s_number_power) .none kV0 dc0 pm0 an0 cd0 ct0), sl0⟩) (c0 : PySem.W.codeIn K cd0 "number_power" = true) (k0 : PySem.W.keepIn K (.ref f0) = true)
    (a1 : PySem.W.nsIn K mainGlobals "divisors" = some (some (.ref f1))) (l1 : K.lookup f1 = some ⟨oc1, od1, .func (PySem.W.fnOf "divisors" "divisors" (defArgs s_divisors) (defBody s_divisors) (defScope s_divisors) .none kV1 dc1 pm1 an1 cd1 ct1), sl1⟩) (c1 : PySem.W.codeIn K cd1 "divisors" = true) (k1 : PySem.W.keepIn K (.ref f1) = true)
    (a2 : PySem.W.nsIn K mainGlobals "count_lists" = some (some (.ref f2))) (l2 : K.lookup f2 = some ⟨oc2, od2, .func (PySem.W.fnOf "count_lists" "count_lists" (defArgs s_count_lists) (defBody s_count_lists) (defScope s_count_lists) .none kV2 dc2 pm2 an2 cd2 ct2), sl2⟩) (c2 : PySem.W.codeIn K cd2 "count_lists" = true) (k2 : PySem.W.keepIn K (.ref f2) = true)
    (a3 : PySem.W.nsIn K mainGlobals "count_unsplittable" = some (some (.ref f3))) (l3 : K.lookup f3 = some ⟨oc3, od3, .func (PySem.W.fnOf "count_unsplittable" "count_unsplittable" (defArgs s_count_unsplittable) (defBody s_count_unsplittable) (defScope s_count_unsplittable) .none kV3 dc3 pm3 an3 cd3 ct3), sl3⟩) (c3 : PySem.W.codeIn K cd3 "count_unsplittable" = true) (k3 : PySem.W.keepIn K (.ref f3) = true)
    (a4 : PySem.W.nsIn K mainGlobals "_law_bag" = some (some (.ref f4))) (l4 : K.lookup f4 = some ⟨oc4, od4, .func (PySem.W.fnOf "_law_bag" "_law_bag" (defArgs s_law_bag) (defBody s_law_bag) (defScope s_law_bag) .none kV4 dc4 pm4 an4 cd4 ct4), sl4⟩) (c4 : PySem.W.codeIn K cd4 "_law_bag" = true) (k4 : PySem.W.keepIn K (.ref f4) = true)
    (a5 : PySem.W.nsIn K mainGlobals "_law_draw" = some (some (.ref f5))) (l5 : K.lookup f5 = some ⟨oc5, od5, .func (PySem.W.fnOf "_law_draw" "_law_draw" (defArgs s_law_draw) (defBody s_law_draw) (defScope s_law_draw) .none kV5 dc5 pm5 an5 cd5 ct5), sl5⟩) (c5 : PySem.W.codeIn K cd5 "_law_draw" = true) (k5 : PySem.W.keepIn K (.ref f5) = true)
    (a6 : PySem.W.nsIn K mainGlobals "_law_power" = some (some (.ref f6))) (l6 : K.lookup f6 = some ⟨oc6, od6, .func (PySem.W.fnOf "_law_power" "_law_power" (defArgs s_law_power) (defBody s_law_power) (defScope s_law_power) .none kV6 dc6 pm6 an6 cd6 ct6), sl6⟩) (c6 : PySem.W.codeIn K cd6 "_law_power" = true) (k6 : PySem.W.keepIn K (.ref f6) = true)
    (a7 : PySem.W.nsIn K mainGlobals "_law_by_primes" = some (some (.ref f7))) (l7 : K.lookup f7 = some ⟨oc7, od7, .func (PySem.W.fnOf "_law_by_primes" "_law_by_primes" (defArgs s_law_by_primes) (defBody s_law_by_primes) (defScope s_law_by_primes) .none kV7 dc7 pm7 an7 cd7 ct7), sl7⟩) (c7 : PySem.W.codeIn K cd7 "_law_by_primes" = true) (k7 : PySem.W.keepIn K (.ref f7) = true)
    (a8 : PySem.W.nsIn K mainGlobals "_law_by_square" = some (some (.ref f8))) (l8 : K.lookup f8 = some ⟨oc8, od8, .func (PySem.W.fnOf "_law_by_square" "_law_by_square" (defArgs s_law_by_square) (defBody s_law_by_square) (defScope s_law_by_square) .none kV8 dc8 pm8 an8 cd8 ct8), sl8⟩) (c8 : PySem.W.codeIn K cd8 "_law_by_square" = true) (k8 : PySem.W.keepIn K (.ref f8) = true)
    (a9 : PySem.W.nsIn K mainGlobals "_law_by_cube" = some (some (.ref f9))) (l9 : K.lookup f9 = some ⟨oc9, od9, .func (PySem.W.fnOf "_law_by_cube" "_law_by_cube" (defArgs s_law_by_cube) (defBody s_law_by_cube) (defScope s_law_by_cube) .none kV9 dc9 pm9 an9 cd9 ct9), sl9⟩) (c9 : PySem.W.codeIn K cd9 "_law_by_cube" = true) (k9 : PySem.W.keepIn K (.ref f9) = true)
    (a10 : PySem.W.nsIn K mainGlobals "_law_all" = some (some (.ref f10))) (l10 : K.lookup f10 = some ⟨oc10, od10, .func (PySem.W.fnOf "_law_all" "_law_all" (defArgs s_law_all) (defBody s_law_all) (defScope s_law_all) .none kV10 dc10 pm10 an10 cd10 ct10), sl10⟩) (c10 : PySem.W.codeIn K cd10 "_law_all" = true) (k10 : PySem.W.keepIn K (.ref f10) = true)
    (a11 : PySem.W.nsIn K mainGlobals "law" = some (some (.ref f11))) (l11 : K.lookup f11 = some ⟨oc11, od11, .func (PySem.W.fnOf "law" "law" (defArgs s_law) (defBody s_law) (defScope s_law) .none kV11 dc11 pm11 an11 cd11 ct11), sl11⟩) (c11 : PySem.W.codeIn K cd11 "law" = true) (k11 : PySem.W.keepIn K (.ref f11) = true)
    (z0 : PySem.W.nsIn K mainGlobals "abs" = some none)
    (z1 : PySem.W.nsIn K mainGlobals "dict" = some none)
    (z2 : PySem.W.nsIn K mainGlobals "int" = some none)
    (z3 : PySem.W.nsIn K mainGlobals "len" = some none)
    (z4 : PySem.W.nsIn K mainGlobals "min" = some none)
    (z5 : PySem.W.nsIn K mainGlobals "range" = some none)
    (z6 : PySem.W.nsIn K mainGlobals "sum" = some none)
    : ∃ fd : FuncData, (∀ (s : Shared) (v : Value), BindsTo s fd ⟨[v], []⟩ [("script", v)]) ∧ ∀ base : Heap, K.In base → base.Ns mainGlobals mg → FnOk l.prog w K mg base CX0 lvl_law fa fd ["script"] (sp_law K) := by
  have e := hfa.symm.trans (PySem.W.mg_of X G a11)
  cases e
  have F0 := fun_mk (st := s_number_power) l0 c0 k0
  have F1 := fun_mk (st := s_divisors) l1 c1 k1
  have F2 := fun_mk (st := s_count_lists) l2 c2 k2
  have F3 := fun_mk (st := s_count_unsplittable) l3 c3 k3
  have F4 := fun_mk (st := s_law_bag) l4 c4 k4
  have F5 := fun_mk (st := s_law_draw) l5 c5 k5
  have F6 := fun_mk (st := s_law_power) l6 c6 k6
  have F7 := fun_mk (st := s_law_by_primes) l7 c7 k7
  have F8 := fun_mk (st := s_law_by_square) l8 c8 k8
  have F9 := fun_mk (st := s_law_by_cube) l9 c9 k9
  have F10 := fun_mk (st := s_law_all) l10 c10 k10
  have F11 := fun_mk (st := s_law) l11 c11 k11
  have b0 := F0.binds (ps := ["number", "times"]) fun _ _ _ _ _ _ us hl => match us, hl with | [_, _], _ => rfl
  have b1 := F1.binds (ps := ["number"]) fun _ _ _ _ _ _ us hl => match us, hl with | [_], _ => rfl
  have b2 := F2.binds (ps := ["numbers", "kinds"]) fun _ _ _ _ _ _ us hl => match us, hl with | [_, _], _ => rfl
  have b3 := F3.binds (ps := ["attempts", "kinds"]) fun _ _ _ _ _ _ us hl => match us, hl with | [_, _], _ => rfl
  have b4 := F4.binds (ps := ["script"]) fun _ _ _ _ _ _ us hl => match us, hl with | [_], _ => rfl
  have b5 := F5.binds (ps := ["bag", "many"]) fun _ _ _ _ _ _ us hl => match us, hl with | [_, _], _ => rfl
  have b6 := F6.binds (ps := ["base", "number"]) fun _ _ _ _ _ _ us hl => match us, hl with | [_, _], _ => rfl
  have b7 := F7.binds (ps := ["one", "two", "many"]) fun _ _ _ _ _ _ us hl => match us, hl with | [_, _, _], _ => rfl
  have b8 := F8.binds (ps := ["one", "many"]) fun _ _ _ _ _ _ us hl => match us, hl with | [_, _], _ => rfl
  have b9 := F9.binds (ps := ["one", "many"]) fun _ _ _ _ _ _ us hl => match us, hl with | [_, _], _ => rfl
  have b10 := F10.binds (ps := ["told", "size", "many"]) fun _ _ _ _ _ _ us hl => match us, hl with | [_, _, _], _ => rfl
  have b11 := F11.binds (ps := ["script"]) fun _ _ _ _ _ _ us hl => match us, hl with | [_], _ => rfl
  have T : Txt K mg := ⟨f0, _, F0, PySem.W.mg_of X G a0, b0, f1, _, F1, PySem.W.mg_of X G a1, b1, f2, _, F2, PySem.W.mg_of X G a2, b2, f3, _, F3, PySem.W.mg_of X G a3, b3, f4, _, F4, PySem.W.mg_of X G a4, b4, f5, _, F5, PySem.W.mg_of X G a5, b5, f6, _, F6, PySem.W.mg_of X G a6, b6, f7, _, F7, PySem.W.mg_of X G a7, b7, f8, _, F8, PySem.W.mg_of X G a8, b8, f9, _, F9, PySem.W.mg_of X G a9, b9, f10, _, F10, PySem.W.mg_of X G a10, b10, fa, _, F11, PySem.W.mg_of X G a11, b11, PySem.W.mg_none_of X G z0, PySem.W.mg_none_of X G z1, PySem.W.mg_none_of X G z2, PySem.W.mg_none_of X G z3, PySem.W.mg_none_of X G z4, PySem.W.mg_none_of X G z5, PySem.W.mg_none_of X G z6⟩
  exact ⟨_, fun s v => .of_eq rfl, fun base _ _ => ok_law ⟨f0, _, F0, PySem.W.mg_of X G a0, b0, f1, _, F1, PySem.W.mg_of X G a1, b1, f2, _, F2, PySem.W.mg_of X G a2, b2, f3, _, F3, PySem.W.mg_of X G a3, b3, f4, _, F4, PySem.W.mg_of X G a4, b4, f5, _, F5, PySem.W.mg_of X G a5, b5, f6, _, F6, PySem.W.mg_of X G a6, b6, f7, _, F7, PySem.W.mg_of X G a7, b7, f8, _, F8, PySem.W.mg_of X G a8, b8, f9, _, F9, PySem.W.mg_of X G a9, b9, f10, _, F10, PySem.W.mg_of X G a10, b10, fa, _, F11, PySem.W.mg_of X G a11, b11, PySem.W.mg_none_of X G z0, PySem.W.mg_none_of X G z1, PySem.W.mg_none_of X G z2, PySem.W.mg_none_of X G z3, PySem.W.mg_none_of X G z4, PySem.W.mg_none_of X G z5, PySem.W.mg_none_of X G z6⟩⟩
end Rn
open PySem PySem.W PyProof.Rows
set_option maxRecDepth 100000 in
set_option maxHeartbeats 0 in
theorem PySem.Challenge.cw_retrynest_k34_whole_numbers_of_unsplitta_holds : PySem.Challenge.rw_retrynest_k34_whole_numbers_of_unsplitta.Holds := by
  w_on; o_law; k_head; (case hw => w_witness2)
  k_fill
  refine L2.walk_ofK (l := PySem.Challenge.rw_retrynest_k34_whole_numbers_of_unsplitta) (n := 63) (k := Rn.lvl_law) (x := "script") (CX := L2.CX0) (sp := Rn.sp_law) rfl (by decide) rfl ⟨rfl, by decide, by decide⟩ (fun w h Y => PySem.W.kIn_of Y) ?F (fun _ _ a ns hl _ hS => ⟨a, ns, rfl, hS, hl, fun _ => rfl⟩) (fun _ _ _ _ h => h)
  case F =>
    intro w mg fa h KX G hmg
    refine' Rn.all_mk KX G hmg ?a0 ?l0 ?c0 ?k0 ?a1 ?l1 ?c1 ?k1 ?a2 ?l2 ?c2 ?k2 ?a3 ?l3 ?c3 ?k3 ?a4 ?l4 ?c4 ?k4 ?a5 ?l5 ?c5 ?k5 ?a6 ?l6 ?c6 ?k6 ?a7 ?l7 ?c7 ?k7 ?a8 ?l8 ?c8 ?k8 ?a9 ?l9 ?c9 ?k9 ?a10 ?l10 ?c10 ?k10 ?a11 ?l11 ?c11 ?k11 ?z0 ?z1 ?z2 ?z3 ?z4 ?z5 ?z6
    (case a0 => k_is); (case l0 => k_is); (case c0 => k_is); (case k0 => k_is); (case a1 => k_is); (case l1 => k_is); (case c1 => k_is); (case k1 => k_is); (case a2 => k_is)
    (case l2 => k_is); (case c2 => k_is); (case k2 => k_is); (case a3 => k_is); (case l3 => k_is); (case c3 => k_is); (case k3 => k_is); (case a4 => k_is); (case l4 => k_is)
    (case c4 => k_is); (case k4 => k_is); (case a5 => k_is); (case l5 => k_is); (case c5 => k_is); (case k5 => k_is); (case a6 => k_is); (case l6 => k_is); (case c6 => k_is)
    (case k6 => k_is); (case a7 => k_is); (case l7 => k_is); (case c7 => k_is); (case k7 => k_is); (case a8 => k_is); (case l8 => k_is); (case c8 => k_is); (case k8 => k_is)
    (case a9 => k_is); (case l9 => k_is); (case c9 => k_is); (case k9 => k_is); (case a10 => k_is); (case l10 => k_is); (case c10 => k_is); (case k10 => k_is); (case a11 => k_is)
    (case l11 => k_is); (case c11 => k_is); (case k11 => k_is); (case z0 => k_is); (case z1 => k_is); (case z2 => k_is); (case z3 => k_is); (case z4 => k_is); (case z5 => k_is)
    (case z6 => k_is)
