import PyProof.Rows.All
import Wide.All
import OpenK.AllK
import Wide.FinOn
import HandS.ForMost
import HandS.Wide
import HandS.IsInst
import HandS.NoneIn
import HandS.Evl
import HandS.Zip
import HandS.Walk
import HandS.Small
import HandS.SetFor
import HandS.Style
import PySem.Challenge.RW_retrynest_k12_whole_one_form_for_all_way
set_option Elab.async false
set_option linter.all false
set_option maxRecDepth 100000
set_option maxHeartbeats 4000000
namespace Rn
open PySem PySem.Spec PyProof.Rows L2

/-! ## heaps -/
theorem same_new {H : Hp} {p : Addr} {o : HO} (h : H p = none) : Same H (upd H p o) := fun b x e => by
  rw [upd_ne (ne_of_none e h)]
  exact e
theorem same_keep {H H' : Hp} {p : Addr} {o : HO} (e : Same H H') (h : H p = none) : Same H (upd H' p o) := fun b x q => by
  rw [upd_ne (ne_of_none q h)]
  exact e b x q
theorem sql {K : PySem.W.Frag} {H : Hp} {p : Addr} {xs : List V} (h : H p = some (.lst xs)) : SqL K H p xs := .inl (.inl h)
theorem sqt {K : PySem.W.Frag} {H : Hp} {p : Addr} {xs : List V} (h : H p = some (.tup xs)) : SqT K H p xs := .inl (.inl h)
/-- the source's two objects hidden -/
def hid (a d : Addr) (H : Hp) : Hp := fun b => if b = a ∨ b = d then none else H b
theorem hid_get {a d : Addr} {H : Hp} {b : Addr} {o : HO} (h : hid a d H b = some o) : H b = some o ∧ b ≠ a ∧ b ≠ d := by
  unfold hid at h
  by_cases e : b = a ∨ b = d
  · rw [if_pos e] at h
    cases h
  · rw [if_neg e] at h
    exact ⟨h, fun z => e (.inl z), fun z => e (.inr z)⟩
theorem hid_at {a d : Addr} {H : Hp} {b : Addr} {o : HO} (h : H b = some o) (ha : b ≠ a) (hd : b ≠ d) : hid a d H b = some o := by
  unfold hid
  rw [if_neg (fun z => z.elim ha hd)]
  exact h
theorem hid_none {a d : Addr} {H : Hp} {b : Addr} (h : H b = none) : hid a d H b = none := by
  unfold hid
  split
  · rfl
  · exact h
theorem hid_same {a d : Addr} {H H' : Hp} (e : Same H H') : Same (hid a d H) (hid a d H') := fun b o h => by
  obtain ⟨h1, h2, h3⟩ := hid_get h
  exact hid_at (e _ _ h1) h2 h3
theorem hid_src1 {a d : Addr} {H : Hp} {o : HO} : hid a d (upd H a o) = hid a d H := by
  funext b
  unfold hid
  by_cases e : b = a ∨ b = d
  · rw [if_pos e, if_pos e]
  · rw [if_neg e, if_neg e, upd_ne fun z => e (.inl z)]
theorem hid_src2 {a d : Addr} {H : Hp} {o : HO} : hid a d (upd H d o) = hid a d H := by
  funext b
  unfold hid
  by_cases e : b = a ∨ b = d
  · rw [if_pos e, if_pos e]
  · rw [if_neg e, if_neg e, upd_ne fun z => e (.inr z)]
theorem hid_oth {a d : Addr} {H : Hp} {p : Addr} {o : HO} (ha : p ≠ a) (hd : p ≠ d) : hid a d (upd H p o) = upd (hid a d H) p o := by
  funext b
  by_cases e : b = p
  · rw [e, upd_same]
    exact hid_at upd_same ha hd
  · rw [upd_ne e]
    unfold hid
    rw [upd_ne e]

/-! ## the source of draws: a list at a, its digits at d; at most n draws were mixed -/
def Src (H : Hp) (a d : Addr) (n : Int) : Prop := ∃ (cur mix cnt : Int) (ds : List Int), H a = some (.lst [.ref d, .int cur, .int mix, .int cnt]) ∧ H d = some (.lst (ds.map V.int)) ∧
  0 ≤ mix ∧ mix < 2305843009213693951 ∧ 0 ≤ cnt ∧ cnt ≤ n
theorem Src.ne {H : Hp} {a d : Addr} {n : Int} (s : Src H a d n) : a ≠ d := by
  obtain ⟨cur, mix, cnt, ds, h1, h2, _⟩ := s
  intro e
  rw [e] at h1
  rw [h1] at h2
  cases ds with
  | nil => cases h2
  | cons x r =>
    have z := Option.some.inj h2
    injection z with z
    rw [List.map_cons] at z
    injection z with z1 z2
    cases z1
theorem Src.lst1 {H : Hp} {a d : Addr} {n : Int} (s : Src H a d n) : ∃ o, H a = some o := let ⟨_, _, _, _, h, _⟩ := s; ⟨_, h⟩
theorem Src.lst2 {H : Hp} {a d : Addr} {n : Int} (s : Src H a d n) : ∃ o, H d = some o := let ⟨_, _, _, _, _, h, _⟩ := s; ⟨_, h⟩
theorem Src.same {H H' : Hp} {a d : Addr} {n : Int} (s : Src H a d n) (e : Same H H') : Src H' a d n := by
  obtain ⟨cur, mix, cnt, ds, h1, h2, h3⟩ := s
  exact ⟨cur, mix, cnt, ds, e _ _ h1, e _ _ h2, h3⟩
theorem Src.keep {H : Hp} {a d p : Addr} {o : HO} {n : Int} (s : Src H a d n) (ha : p ≠ a) (hd : p ≠ d) : Src (upd H p o) a d n := by
  obtain ⟨cur, mix, cnt, ds, h1, h2, h3⟩ := s
  exact ⟨cur, mix, cnt, ds, by rw [upd_ne ha.symm]; exact h1, by rw [upd_ne hd.symm]; exact h2, h3⟩
theorem Src.mono {H : Hp} {a d : Addr} {n m : Int} (s : Src H a d n) (h : n ≤ m) : Src H a d m := by
  obtain ⟨cur, mix, cnt, ds, h1, h2, h3, h4, h5, h6⟩ := s
  exact ⟨cur, mix, cnt, ds, h1, h2, h3, h4, h5, Int.le_trans h6 h⟩
theorem Src.new1 {H : Hp} {a d p : Addr} {n : Int} (s : Src H a d n) (h : H p = none) : p ≠ a ∧ p ≠ d := by
  obtain ⟨o, h1⟩ := s.lst1
  obtain ⟨u, h2⟩ := s.lst2
  exact ⟨(ne_of_none h1 h).symm, (ne_of_none h2 h).symm⟩

/-- what a call that draws at most c times does to the heap: all but the source stays, the source is a source -/
structure Adv (a d : Addr) (c : Int) (H H' : Hp) : Prop where
  same : Same (hid a d H) (hid a d H')
  src : ∀ n, Src H a d n → Src H' a d (n + c)
theorem Adv.refl {a d : Addr} {H : Hp} : Adv a d 0 H H := ⟨Same.refl _, fun n s => s.mono (by omega)⟩
theorem Adv.trans {a d : Addr} {c c' e : Int} {H H1 H2 : Hp} (x : Adv a d c H H1) (y : Adv a d c' H1 H2) (h : c + c' ≤ e) : Adv a d e H H2 :=
  ⟨x.same.trans y.same, fun n s => (y.src _ (x.src _ s)).mono (by omega)⟩
theorem Adv.mono {a d : Addr} {c e : Int} {H H1 : Hp} (x : Adv a d c H H1) (h : c ≤ e) : Adv a d e H H1 := ⟨x.same, fun n s => (x.src _ s).mono (by omega)⟩
theorem Adv.of {a d : Addr} {H H' : Hp} (e : Same H H') : Adv a d 0 H H' := ⟨hid_same e, fun n s => (s.same e).mono (by omega)⟩
/-- .. where a new object of the way has changed -/
theorem Adv.mut {a d : Addr} {c : Int} {H H' : Hp} {p : Addr} {o : HO} {n : Int} (x : Adv a d c H H') (s : Src H a d n) (h : H p = none) : Adv a d c H (upd H' p o) := by
  obtain ⟨h1, h2⟩ := s.new1 h
  refine ⟨?_, fun m t => (x.src m t).keep h1 h2⟩
  rw [hid_oth h1 h2]
  exact same_keep x.same (hid_none h)
/-- free behind is free ahead -/
theorem Adv.free {a d p : Addr} {c n : Int} {H H' : Hp} (x : Adv a d c H H') (s : Src H a d n) (h : H' p = none) : H p = none := by
  have s' := x.src n s
  obtain ⟨h1, h2⟩ := s'.new1 h
  cases q : H p with
  | none => rfl
  | some o =>
    have e := (hid_get (x.same p o (hid_at q h1 h2))).1
    rw [h] at e
    cases e
theorem Adv.made {a d : Addr} {c cur mix cnt cur' cnt' : Int} {H H' : Hp} {ds' : List Int} (e : Same (hid a d H) (hid a d H')) (h : H a = some (.lst [.ref d, .int cur, .int mix, .int cnt]))
    (h' : H' a = some (.lst [.ref d, .int cur', .int mix, .int cnt'])) (hd' : H' d = some (.lst (ds'.map V.int))) (h0 : cnt ≤ cnt') (h1 : cnt' ≤ cnt + c) : Adv a d c H H' := by
  refine ⟨e, fun n s => ?_⟩
  obtain ⟨cu, mi, cn, ds, a1, a2, a3, a4, a5, a6⟩ := s
  rw [h] at a1
  cases a1
  exact ⟨cur', mix, cnt', ds', h', hd', a3, a4, by omega, by omega⟩
theorem small64 {x b : Int} (h0 : 0 ≤ x) (h1 : x < b) (hb : b ≤ 18446744073709551616) : x.natAbs < 2 ^ 64 := by omega

/-! ## ints in lists -/
theorem map_get {ns : List Int} {i : Nat} {x : Int} (h : ns[i]? = some x) : (ns.map V.int)[i]? = some (.int x) := by
  rw [List.getElem?_map, h]
  rfl
theorem at_int {ns : List Int} {i : Int} (h0 : 0 ≤ i) (h : i < ns.length) : ∃ x, x ∈ ns ∧ ns[i.toNat]? = some x ∧ atI (ns.map V.int) i = some (.int x) := by
  obtain ⟨j, rfl⟩ : ∃ j : Nat, i = (j : Int) := ⟨i.toNat, by omega⟩
  have hi : j < ns.length := by omega
  exact ⟨ns[j], List.getElem_mem hi, List.getElem?_eq_getElem hi, atI_nat (map_get (List.getElem?_eq_getElem hi))⟩
theorem at_val {xs : List V} {i : Int} (h0 : 0 ≤ i) (h : i < xs.length) : ∃ x, x ∈ xs ∧ xs[i.toNat]? = some x ∧ atI xs i = some x := by
  obtain ⟨j, rfl⟩ : ∃ j : Nat, i = (j : Int) := ⟨i.toNat, by omega⟩
  have hi : j < xs.length := by omega
  exact ⟨xs[j], List.getElem_mem hi, List.getElem?_eq_getElem hi, atI_nat (List.getElem?_eq_getElem hi)⟩
theorem size_le {n : Nat} (h : n ≤ 100000) : n ≤ sizeLine := Nat.le_trans h (by decide)
theorem size_lt {n : Nat} (h : n < 100000) : n < sizeLine := Nat.lt_of_lt_of_le h (by decide)
mutual
theorem eqv_refl' : ∀ d : PyData, d.canLay0 = true → PyData.eqv d d = true
  | .none, _ => rfl
  | .bool b, _ => by simp [PyData.eqv]
  | .int i, _ => by simp [PyData.eqv]
  | .str x, _ => by simp [PyData.eqv]
  | .list xs, h => by
    simp only [PyData.eqv]
    exact eqvAll_refl' xs (by simpa [PyData.canLay0] using h)
  | .tuple xs, h => by
    simp only [PyData.eqv]
    exact eqvAll_refl' xs (by simpa [PyData.canLay0] using h)
  | .dict _, h => by simp [PyData.canLay0] at h
theorem eqvAll_refl' : ∀ ds : List PyData, PyData.canLayAll0 ds = true → PyData.eqvAll ds ds = true
  | [], _ => by simp [PyData.eqvAll]
  | d :: ds, h => by
    have h' : d.canLay0 = true ∧ PyData.canLayAll0 ds = true := by simpa [PyData.canLayAll0] using h
    simp only [PyData.eqvAll, Bool.and_eq_true]
    exact ⟨eqv_refl' d h'.1, eqvAll_refl' ds h'.2⟩
end
/-- a list of ints as data -/
def dInts (ns : List Int) : PyData := .list (ns.map .int)
theorem eqvAll_ints : ∀ ns ms : List Int, PyData.eqvAll (ns.map .int) (ms.map .int) = decide (ns = ms)
  | [], [] => by simp [PyData.eqvAll]
  | [], _ :: _ => by simp [PyData.eqvAll]
  | _ :: _, [] => by simp [PyData.eqvAll]
  | n :: ns, m :: ms => by
    have ih := eqvAll_ints ns ms
    simp only [List.map_cons, PyData.eqvAll, PyData.eqv, ih]
    by_cases h1 : n = m <;> by_cases h2 : ns = ms <;> simp [h1, h2]
theorem eqv_ints (ns ms : List Int) : PyData.eqv (dInts ns) (dInts ms) = decide (ns = ms) := by
  unfold dInts
  simp only [PyData.eqv]
  exact eqvAll_ints ns ms
theorem canLay_ints : ∀ ns : List Int, PyData.canLayAll0 (ns.map .int) = true
  | [] => by simp [PyData.canLayAll0]
  | n :: ns => by simp [PyData.canLayAll0, PyData.canLay0, canLay_ints ns]
theorem depth_ints : ∀ ns : List Int, PyData.depthAll (ns.map .int) ≤ 1
  | [] => by simp [PyData.depthAll]
  | n :: ns => by
    have := depth_ints ns
    simp only [List.map_cons, PyData.depthAll, PyData.depth]
    omega
theorem shaped_ints (ns : List Int) : SeqAt.shaped (dInts ns) = true := by
  have h := depth_ints ns
  unfold SeqAt.shaped
  rw [Bool.and_eq_true]
  refine ⟨?_, decide_eq_true ?_⟩
  · unfold dInts
    simp only [PyData.canLay0, canLay_ints]
  · unfold dInts
    simp only [PyData.depth]
    omega
theorem dp_all {K : PySem.W.Frag} {H : Hp} : ∀ ns : List Int, DpAll K H (ns.map V.int) (ns.map .int)
  | [] => .nil
  | n :: ns => .cons (.int n) (dp_all ns)
theorem dp_ints {K : PySem.W.Frag} {H : Hp} {p : Addr} {ns : List Int} (h : SqL K H p (ns.map V.int)) : Dp K H (.ref p) (dInts ns) := .lst h (dp_all ns)
theorem dp_nil {K : PySem.W.Frag} {H : Hp} {p : Addr} (h : SqL K H p []) : Dp K H (.ref p) (dInts []) := .lst h .nil

/-! ## loops -/
/-- for i, x in enumerate(xs), xs left as it is -/
theorem for_enum {K : PySem.W.Frag} {a : Addr} {xs : List V} {g : TG} {tb : TS} {D : Ends} {σ : L2.St} {H : Hp} (Pv : Nat → L2.St → Hp → Prop) (h0 : Pv 0 σ H)
    (hl : ∀ i σ H, i ≤ xs.length → Pv i σ H → SqL K H a xs)
    (hs : ∀ i x σ H T, xs[i]? = some x → Pv i σ H → H T = none → g (.ref T) σ (upd H T (.tup [.int (i : Nat), x])) fun σ2 H2 => tb { D with nx := Pv (i + 1), ct := Pv (i + 1), bk := D.nx } σ2 H2)
    (hd : ∀ σ H, Pv xs.length σ H → D.nx σ H) :
    ∃ W : Nat → Nat → L2.St → Hp → Prop, (∃ m, W 0 m σ H) ∧ ∀ i m σ H, W i m σ H →
      ((Ite K a).stop i H ∧ D.nx σ H) ∨ ((Ite K a).go i H ∧ ∃ N : L2.St → Hp → Prop, (∀ σ' H', N σ' H' → ∃ m', m' < m ∧ W (i + 1) m' σ' H') ∧
        ∀ x H', (Ite K a).yld i H x H' → g x σ H' fun σ2 H2 => tb { D with nx := N, ct := N, bk := D.nx } σ2 H2) := by
  refine ⟨fun i m σ' H' => m + i = xs.length ∧ Pv i σ' H', ⟨xs.length, rfl, h0⟩, fun i m σ' H' hW => ?_⟩
  obtain ⟨em, hp⟩ := hW
  have hq := hl i σ' H' (by omega) hp
  by_cases hi : i < xs.length
  · refine .inr ⟨⟨xs, xs[i], hq, List.getElem?_eq_getElem hi⟩, Pv (i + 1), fun σ2 H2 h2 => ⟨m - 1, by omega, by omega, h2⟩, fun x H2 hy => ?_⟩
    obtain ⟨T, y, rfl, nT, rfl, hx⟩ := hy
    exact hs i y σ' H' T (hx xs hq) hp nT
  · have e : i = xs.length := by omega
    subst e
    exact .inl ⟨⟨xs, hq, Nat.le_refl _⟩, hd σ' H' hp⟩

/-! ## kinds -/
section
variable {K : PySem.W.Frag} {H : Hp} {p : Addr} {xs : List V} {Q : VK}
theorem isi_tt (h : H p = some (.tup xs)) (q : Q (.bl true) H) : rIsi K [.ref p, .ty "tuple"] H Q := ⟨_, _, _, _, _, rfl, .ty "tuple", .base (.tup h), kit_ty (by decide +kernel), q⟩
theorem isi_lt (h : H p = some (.lst xs)) (q : Q (.bl false) H) : rIsi K [.ref p, .ty "tuple"] H Q := ⟨_, _, _, _, _, rfl, .ty "tuple", .base (.lst h), kit_ty (by decide +kernel), q⟩
theorem isi_ll (h : H p = some (.lst xs)) (q : Q (.bl true) H) : rIsi K [.ref p, .ty "list"] H Q := ⟨_, _, _, _, _, rfl, .ty "list", .base (.lst h), kit_ty (by decide +kernel), q⟩
theorem isi_tl (h : H p = some (.tup xs)) (q : Q (.bl false) H) : rIsi K [.ref p, .ty "list"] H Q := ⟨_, _, _, _, _, rfl, .ty "list", .base (.tup h), kit_ty (by decide +kernel), q⟩
end

/-! ## policies and layers -/
/-- the inner one, then each wait of the outer one and the inner one again -/
def nestL {α : Type} (xs ys : List α) : List α := xs ++ ys.flatMap fun y => y :: xs
theorem nestL_map {α β : Type} (f : α → β) (xs ys : List α) : (nestL xs ys).map f = nestL (xs.map f) (ys.map f) := by
  unfold nestL
  rw [List.map_append, List.map_flatMap, List.flatMap_map]
  congr 1
theorem flatMap_len {α β : Type} (f : α → List β) (n : Nat) (h : ∀ x, (f x).length = n) : ∀ l : List α, (l.flatMap f).length = l.length * n
  | [] => by simp
  | x :: l => by
    rw [List.flatMap_cons, List.length_append, h x, flatMap_len f n h l, List.length_cons, Nat.succ_mul, Nat.add_comm]
theorem nestL_len {α : Type} (xs ys : List α) : (nestL xs ys).length + 1 = (xs.length + 1) * (ys.length + 1) := by
  unfold nestL
  rw [List.length_append, flatMap_len _ (xs.length + 1) (fun _ => rfl)]
  generalize xs.length = a
  generalize ys.length = b
  have e1 : (a + 1) * (b + 1) = a * b + a + (b + 1) := by rw [Nat.add_mul, Nat.mul_add, Nat.mul_one, Nat.one_mul]
  have e2 : b * (a + 1) = a * b + b := by rw [Nat.mul_add, Nat.mul_one, Nat.mul_comm]
  omega
theorem nestL_nil {α : Type} (xs : List α) : nestL xs [] = xs := by
  unfold nestL
  simp
theorem nil_nestL {α : Type} (ys : List α) : nestL [] ys = ys := by
  unfold nestL
  simp
theorem nestL_mem {α : Type} {xs ys : List α} {z : α} (h : z ∈ nestL xs ys) : z ∈ xs ∨ z ∈ ys := by
  unfold nestL at h
  rw [List.mem_append, List.mem_flatMap] at h
  rcases h with h | ⟨y, hy, h⟩
  · exact .inl h
  · rcases List.mem_cons.mp h with e | h
    · exact .inr (e ▸ hy)
    · exact .inl h
inductive Lay where
  | pol (ns : List Int)
  | con (w n : Int)
def Lay.cnt : Lay → Int
  | .pol ns => (ns.length : Int) + 1
  | .con _ n => n
def Lay.waits : Lay → List Int
  | .pol ns => ns
  | .con w n => List.replicate (n - 1).toNat w
def Lay.ok : Lay → Bool
  | .pol ns => ns.all fun x => decide (0 ≤ x)
  | .con w n => decide (0 ≤ w) && decide (1 ≤ n)
theorem Lay.ok_con (w n : Int) : (Lay.con w n).ok = (decide (0 ≤ w) && decide (1 ≤ n)) := rfl
theorem Lay.ok_pol (ns : List Int) : (Lay.pol ns).ok = ns.all fun x => decide (0 ≤ x) := rfl
def LayAt (H : Hp) (v : V) : Lay → Prop
  | .pol ns => ∃ p, v = .ref p ∧ H p = some (.lst (ns.map V.int))
  | .con w n => ∃ p, v = .ref p ∧ H p = some (.tup [.int w, .int n])
theorem LayAt.same {H H' : Hp} {v : V} {L : Lay} (h : LayAt H v L) (e : Same H H') : LayAt H' v L := by
  cases L with
  | pol ns => obtain ⟨p, h1, h2⟩ := h; exact ⟨p, h1, e _ _ h2⟩
  | con w n => obtain ⟨p, h1, h2⟩ := h; exact ⟨p, h1, e _ _ h2⟩
theorem LayAt.ref {H : Hp} {v : V} {L : Lay} (h : LayAt H v L) : ∃ p, v = .ref p := by
  cases L with
  | pol ns => obtain ⟨p, h1, _⟩ := h; exact ⟨p, h1⟩
  | con w n => obtain ⟨p, h1, _⟩ := h; exact ⟨p, h1⟩
def NestAt (H : Hp) (q : Addr) (Ls : List Lay) : Prop := ∃ vs, H q = some (.lst vs) ∧ vs.length = Ls.length ∧ ∀ (i : Nat) v L, vs[i]? = some v → Ls[i]? = some L → LayAt H v L
theorem NestAt.same {H H' : Hp} {q : Addr} {Ls : List Lay} (h : NestAt H q Ls) (e : Same H H') : NestAt H' q Ls := by
  obtain ⟨vs, h1, h2, h3⟩ := h
  exact ⟨vs, e _ _ h1, h2, fun i v L a b => (h3 i v L a b).same e⟩
theorem LayAt.con_pos {L : Lay} (h : L.ok = true) : 1 ≤ L.cnt := by
  cases L with
  | pol ns => show (1 : Int) ≤ (ns.length : Int) + 1; omega
  | con w n =>
    unfold Lay.ok at h
    rw [Bool.and_eq_true] at h
    exact of_decide_eq_true h.2
def attOf (Ls : List Lay) : Int := Ls.foldl (fun t L => t * L.cnt) 1
def flatL (Ls : List Lay) : List Int := Ls.foldl (fun acc L => if L.cnt > 1 then nestL acc L.waits else acc) []
theorem nest_of {H : Hp} {q : Addr} {vs : List V} {Ls : List Lay} (h : H q = some (.lst vs)) (p : Paired (LayAt H) vs Ls) : NestAt H q Ls := by
  refine ⟨vs, h, Paired.length p, ?_⟩
  clear h
  induction p with
  | nil =>
    intro i v L h
    cases h
  | cons r t ih =>
    intro i v L h1 h2
    cases i with
    | zero =>
      cases h1
      cases h2
      exact r
    | succ i => exact ih i v L h1 h2
theorem flatL_eq : ∀ (Ls : List Lay) (acc : List Int), (∀ L ∈ Ls, L.ok = true) → Ls.foldl (fun acc L => if L.cnt > 1 then nestL acc L.waits else acc) acc = Ls.foldl (fun acc L => nestL acc L.waits) acc
  | [], _, _ => rfl
  | L :: Ls, acc, h => by
    have h1 := LayAt.con_pos (h L List.mem_cons_self)
    have e : (if L.cnt > 1 then nestL acc L.waits else acc) = nestL acc L.waits := by
      split
      · rfl
      · have hw : L.waits = [] := by
          cases L with
          | pol ns =>
            have : (ns.length : Int) + 1 = (Lay.pol ns).cnt := rfl
            exact List.length_eq_zero_iff.mp (by show ns.length = 0; omega)
          | con w n =>
            have : n = (Lay.con w n).cnt := rfl
            show List.replicate (n - 1).toNat w = []
            rw [show (n - 1).toNat = 0 by omega]
            rfl
        rw [hw, nestL_nil]
    rw [List.foldl_cons, List.foldl_cons, e]
    exact flatL_eq Ls _ fun M hM => h M (List.mem_cons_of_mem _ hM)
theorem flatL_fold {Ls : List Lay} (h : ∀ L ∈ Ls, L.ok = true) : flatL Ls = Ls.foldl (fun acc L => nestL acc L.waits) [] := flatL_eq Ls [] h
theorem nestL_assoc {α : Type} (xs ys zs : List α) : nestL (nestL xs ys) zs = nestL xs (nestL ys zs) := by
  unfold nestL
  rw [List.flatMap_append, List.append_assoc]
  congr 1
  congr 1
  induction zs with
  | nil => rfl
  | cons z zs ih =>
    simp only [List.flatMap_cons, List.flatMap_append, List.cons_append, List.append_assoc] at ih ⊢
    rw [ih]
theorem pol_ok {ns : List Int} (h : ∀ x ∈ ns, 0 ≤ x ∧ x < 1000000000000) : (Lay.pol ns).ok = true := by
  rw [Lay.ok_pol, List.all_eq_true]
  exact fun x hx => decide_eq_true (h x hx).1
theorem ne_no {ns ms : List Int} {A B : Prop} (h : ns = ms) (b : B) : if (!PyData.eqv (dInts ns) (dInts ms)) = true then A else B := by
  rw [eqv_ints, decide_eq_true h]
  exact iteF b

/-! ## rules of the written part in a comprehension's block -/
section
variable {X : Cx} {K : PySem.W.Frag}
theorem ix_listK (h : X.K = K) : IxR X (rIxL K) := by subst h; exact ix_list
theorem ix_tupK (h : X.K = K) : IxR X (rIxT K) := by subst h; exact ix_tup
theorem sl_listK (h : X.K = K) : SlR X (rSlL K) := by subst h; exact sl_list
theorem op_eqDK (h : X.K = K) (hu : X.A.units + 64 < cLine) : OpR X (compareOp .Eq) (rEqD K) := by subst h; exact op_eqD hu
theorem op_neDK (h : X.K = K) (hu : X.A.units + 64 < cLine) : OpR X (compareOp .NotEq) (rNeD K) := by subst h; exact op_neD hu
theorem op_in_seqK (h : X.K = K) : OpR X (compareOp .In) (rIn K false) := by subst h; exact op_in_seq
theorem op_notIn_seqK (h : X.K = K) : OpR X (compareOp .NotIn) (rIn K true) := by subst h; exact op_notIn_seq
theorem call_isiK1 (h : X.K = K) : CallR X (.builtin "isinstance") (rIsi K) := by subst h; exact call_isi
def rLenK (K : PySem.W.Frag) : List V → Hp → VK → Prop := fun xs H Q => ∃ p ys, xs = [.ref p] ∧ (SqL K H p ys ∨ SqT K H p ys) ∧ Q (.int (ys.length : Int)) H
theorem call_len_seqK (h : X.K = K) : CallR X (.builtin "len") (rLenK K) := by subst h; exact call_len_seq
def rListK (K : PySem.W.Frag) : List V → Hp → VK → Prop := fun xs H Q => ∃ p ys, xs = [.ref p] ∧ (SqL K H p ys ∨ SqT K H p ys) ∧ ∀ l, H l = none → Q (.ref l) (upd H l (.lst ys))
theorem call_list_ofK (h : X.K = K) : CallR X (.type "list") (rListK K) := by subst h; exact call_list_of
end
theorem refs_ints {ps : List Addr} {ws : List Int} (h : ps.map V.ref = ws.map V.int) : ps = [] := by
  cases ps with
  | nil => rfl
  | cons p ps =>
    cases ws with
    | nil => cases h
    | cons w ws =>
      injection h with h1 h2
      cases h1
theorem three {α : Type} {l : List α} (h : l.length = 3) : ∃ x y z, l = [x, y, z] := by
  match l, h with
  | [x, y, z], _ => exact ⟨x, y, z, rfl⟩
theorem ixN_at {n : Nat} {i : Int} (h0 : 0 ≤ i) (h1 : i < n) : ixN n i = some i.toNat := by
  unfold ixN
  rw [if_pos h0, if_pos h1]
theorem eq_yes {ns ms : List Int} (h : ns = ms) : PyData.eqv (dInts ns) (dInts ms) = true := by rw [eqv_ints, decide_eq_true h]
theorem nestL_cons {α : Type} (ns : List α) (m : α) (ms : List α) : nestL ns (m :: ms) = ns ++ m :: nestL ns ms := by
  unfold nestL
  rw [List.flatMap_cons, List.cons_append]
theorem nestL_get {α : Type} (ns : List α) : ∀ (ms : List α) (j : Nat), j < (nestL ns ms).length → (nestL ns ms)[j]? = if (j + 1) % (ns.length + 1) = 0 then ms[(j + 1) / (ns.length + 1) - 1]? else ns[(j + 1) % (ns.length + 1) - 1]?
  | [], j, h => by
    rw [nestL_nil] at h ⊢
    rw [Nat.mod_eq_of_lt (by omega), if_neg (by omega)]
    rfl
  | m :: ms, j, h => by
    rw [nestL_cons] at h ⊢
    by_cases h1 : j < ns.length
    · rw [List.getElem?_append_left h1, Nat.mod_eq_of_lt (by omega), if_neg (by omega)]
      rfl
    · by_cases h2 : j = ns.length
      · subst h2
        rw [List.getElem?_append_right (Nat.le_refl _), Nat.sub_self, Nat.mod_self, if_pos rfl, Nat.div_self (by omega)]
        rfl
      · obtain ⟨t, rfl⟩ : ∃ t, j = ns.length + 1 + t := ⟨j - (ns.length + 1), by omega⟩
        rw [List.getElem?_append_right (by omega), show ns.length + 1 + t - ns.length = t + 1 by omega, List.getElem?_cons_succ]
        rw [List.length_append, List.length_cons] at h
        rw [nestL_get ns ms t (by omega), show ns.length + 1 + t + 1 = (t + 1) + (ns.length + 1) by omega, Nat.add_mod_right, Nat.add_div_right _ (by omega)]
        by_cases h3 : (t + 1) % (ns.length + 1) = 0
        · rw [if_pos h3, if_pos h3, Nat.succ_sub_one]
          have : 1 ≤ (t + 1) / (ns.length + 1) := by
            have := Nat.div_add_mod (t + 1) (ns.length + 1)
            rw [h3] at this
            rcases Nat.eq_zero_or_pos ((t + 1) / (ns.length + 1)) with z | z
            · rw [z] at this
              omega
            · exact z
          obtain ⟨u, hu⟩ : ∃ u, (t + 1) / (ns.length + 1) = u + 1 := ⟨(t + 1) / (ns.length + 1) - 1, by omega⟩
          rw [hu]
          rfl
        · rw [if_neg h3, if_neg h3]
theorem foldl_nestL : ∀ (Ls : List Lay) (xs acc : List Int), Ls.foldl (fun acc L => nestL acc L.waits) (nestL xs acc) = nestL xs (Ls.foldl (fun acc L => nestL acc L.waits) acc)
  | [], _, _ => rfl
  | L :: Ls, xs, acc => by
    rw [List.foldl_cons, List.foldl_cons, nestL_assoc]
    exact foldl_nestL Ls xs (nestL acc L.waits)
theorem flatL_cons {L : Lay} {Ls : List Lay} (h : ∀ M ∈ L :: Ls, M.ok = true) : flatL (L :: Ls) = nestL L.waits (flatL Ls) := by
  rw [flatL_fold h, flatL_fold fun M hM => h M (List.mem_cons_of_mem _ hM), List.foldl_cons, nil_nestL]
  have := foldl_nestL Ls L.waits []
  rw [nestL_nil] at this
  exact this
/-- a nesting whose layers' objects are newer than H0 and none of them is the nesting's own list -/
def NestV (H0 G : Hp) (p : Addr) (vs : List V) (Ls : List Lay) : Prop := G p = some (.lst vs) ∧ vs.length = Ls.length ∧ (∀ (i : Nat) v L, vs[i]? = some v → Ls[i]? = some L → LayAt G v L) ∧ ∀ x, V.ref x ∈ vs → x ≠ p ∧ H0 x = none
theorem NestV.nest {H0 G : Hp} {p : Addr} {vs : List V} {Ls : List Lay} (h : NestV H0 G p vs Ls) : NestAt G p Ls := ⟨vs, h.1, h.2.1, h.2.2.1⟩
theorem NestV.same {H0 G G' : Hp} {p : Addr} {vs : List V} {Ls : List Lay} (h : NestV H0 G p vs Ls) (e : Same G G') : NestV H0 G' p vs Ls :=
  ⟨e _ _ h.1, h.2.1, fun i v L a b => (h.2.2.1 i v L a b).same e, h.2.2.2⟩
theorem NestV.nil {H0 G : Hp} {p : Addr} (h : G p = some (.lst [])) : NestV H0 G p [] [] := ⟨h, rfl, (fun _ _ _ z => nomatch z), (fun _ z => nomatch z)⟩
theorem LayAt.keep {G : Hp} {p : Addr} {o : HO} {v : V} {L : Lay} (h : LayAt G v L) (ne : ∀ x, v = V.ref x → x ≠ p) : LayAt (upd G p o) v L := by
  cases L with
  | pol ns => obtain ⟨x, e, z⟩ := h; exact ⟨x, e, by rw [upd_ne (ne x e)]; exact z⟩
  | con w n => obtain ⟨x, e, z⟩ := h; exact ⟨x, e, by rw [upd_ne (ne x e)]; exact z⟩
theorem NestV.push {H0 G : Hp} {p x : Addr} {vs : List V} {Ls : List Lay} {L : Lay} (h : NestV H0 G p vs Ls) (hx : LayAt G (.ref x) L) (ne : x ≠ p) (fr : H0 x = none) :
    NestV H0 (upd G p (.lst (vs ++ [.ref x]))) p (vs ++ [.ref x]) (Ls ++ [L]) := by
  obtain ⟨h1, h2, h3, h4⟩ := h
  refine ⟨upd_same, by rw [List.length_append, List.length_append, h2]; rfl, fun i v M a b => ?_, fun y hy => ?_⟩
  · by_cases hi : i < vs.length
    · rw [List.getElem?_append_left hi] at a
      rw [List.getElem?_append_left (by omega)] at b
      exact (h3 i v M a b).keep fun y e => (h4 y (e ▸ List.mem_of_getElem? a)).1
    · rw [List.getElem?_append_right (by omega)] at a
      rw [List.getElem?_append_right (by omega), ← h2] at b
      generalize i - vs.length = k at *
      cases k with
      | zero =>
        cases a
        cases b
        exact hx.keep fun y e => by cases e; exact ne
      | succ k => cases a
  · rcases List.mem_append.mp hy with z | z
    · exact h4 y z
    · have := List.mem_singleton.mp z
      cases this
      exact ⟨ne, fr⟩
/-- one of its lists of ints is changed in place, its length kept -/
theorem NestV.turn {H0 G : Hp} {p x : Addr} {vs : List V} {Ls : List Lay} {ws us : List Int} (h : NestV H0 G p vs Ls) (hx : G x = some (.lst (ws.map V.int))) (ne : x ≠ p) (hl : us.length = ws.length) :
    ∃ Ms : List Lay, NestV H0 (upd G x (.lst (us.map V.int))) p vs Ms ∧ Ms.map Lay.cnt = Ls.map Lay.cnt ∧ ∀ M ∈ Ms, M ∈ Ls ∨ (M = .pol us ∧ Lay.pol ws ∈ Ls) := by
  obtain ⟨h1, h2, h3, h4⟩ := h
  suffices key : ∀ (vs : List V) (Ls : List Lay), vs.length = Ls.length → (∀ (i : Nat) v L, vs[i]? = some v → Ls[i]? = some L → LayAt G v L) →
      ∃ Ms : List Lay, vs.length = Ms.length ∧ (∀ (i : Nat) v L, vs[i]? = some v → Ms[i]? = some L → LayAt (upd G x (.lst (us.map V.int))) v L) ∧ Ms.map Lay.cnt = Ls.map Lay.cnt ∧ ∀ M ∈ Ms, M ∈ Ls ∨ (M = .pol us ∧ Lay.pol ws ∈ Ls) by
    obtain ⟨Ms, k1, k2, k3, k4⟩ := key vs Ls h2 h3
    exact ⟨Ms, ⟨by rw [upd_ne ne.symm]; exact h1, k1, k2, h4⟩, k3, k4⟩
  clear h1 h2 h3 h4
  intro vs
  induction vs with
  | nil =>
    intro Ls hl _
    have : Ls = [] := List.length_eq_zero_iff.mp hl.symm
    subst this
    exact ⟨[], rfl, (fun _ _ _ z => nomatch z), rfl, (fun _ z => nomatch z)⟩
  | cons v vs ih =>
    intro Ls hlen hat
    cases Ls with
    | nil => cases hlen
    | cons L Ls =>
      obtain ⟨Ms, k1, k2, k3, k4⟩ := ih Ls (by simpa using hlen) fun i u M a b => hat (i + 1) u M a b
      have h0 := hat 0 v L rfl rfl
      by_cases e : v = V.ref x
      · subst e
        have hL : L = .pol ws := by
          cases L with
          | pol ns =>
            obtain ⟨y, e, z⟩ := h0
            cases e
            rw [hx] at z
            injection z with z
            injection z with z
            have : ∀ (as bs : List Int), as.map V.int = bs.map V.int → as = bs := by
              intro as
              induction as with
              | nil => intro bs q; cases bs with
                | nil => rfl
                | cons b bs => cases q
              | cons a as ih => intro bs q; cases bs with
                | nil => cases q
                | cons b bs =>
                  injection q with q1 q2
                  injection q1 with q1
                  rw [q1, ih bs q2]
            rw [this _ _ z]
          | con w n =>
            obtain ⟨y, e, z⟩ := h0
            cases e
            rw [hx] at z
            cases z
        refine ⟨.pol us :: Ms, by rw [List.length_cons, List.length_cons, k1], fun i u M a b => ?_, ?_, fun M hM => ?_⟩
        · cases i with
          | zero =>
            cases a
            cases b
            exact ⟨x, rfl, upd_same⟩
          | succ i => exact k2 i u M a b
        · rw [List.map_cons, List.map_cons, k3, hL]
          show ((us.length : Int) + 1) :: _ = ((ws.length : Int) + 1) :: _
          rw [hl]
        · rcases List.mem_cons.mp hM with z | z
          · exact .inr ⟨z, by rw [hL]; exact List.mem_cons_self⟩
          · rcases k4 M z with z | ⟨z1, z2⟩
            · exact .inl (List.mem_cons_of_mem _ z)
            · exact .inr ⟨z1, List.mem_cons_of_mem _ z2⟩
      · refine ⟨L :: Ms, by rw [List.length_cons, List.length_cons, k1], fun i u M a b => ?_, ?_, fun M hM => ?_⟩
        · cases i with
          | zero =>
            cases a
            cases b
            exact h0.keep fun y q z => e (by rw [q, z])
          | succ i => exact k2 i u M a b
        · rw [List.map_cons, List.map_cons, k3]
        · rcases List.mem_cons.mp hM with z | z
          · exact .inl (z ▸ List.mem_cons_self)
          · rcases k4 M z with z | ⟨z1, z2⟩
            · exact .inl (List.mem_cons_of_mem _ z)
            · exact .inr ⟨z1, List.mem_cons_of_mem _ z2⟩
theorem attOf_cnt : ∀ (Ls : List Lay) (t : Int), Ls.foldl (fun t L => t * L.cnt) t = (Ls.map Lay.cnt).foldl (fun t c => t * c) t
  | [], _ => rfl
  | L :: Ls, t => by
    rw [List.foldl_cons, List.map_cons, List.foldl_cons]
    exact attOf_cnt Ls _
theorem attOf_same {Ls Ms : List Lay} (h : Ms.map Lay.cnt = Ls.map Lay.cnt) : attOf Ms = attOf Ls := by
  unfold attOf
  rw [attOf_cnt, attOf_cnt, h]
/-- a layer that a law draws -/
def Lay.nice (L : Lay) : Prop := L.ok = true ∧ match L with
  | .pol ns => ns.length ≤ 60 ∧ ∀ x ∈ ns, 0 ≤ x ∧ x < 1000000000000
  | .con w n => w < 1000000000000 ∧ n < 1000000000000000000000
theorem Lay.nice_pol {ns : List Int} (h : ns.length ≤ 60) (hb : ∀ x ∈ ns, 0 ≤ x ∧ x < 1000000000000) : (Lay.pol ns).nice := ⟨pol_ok hb, h, hb⟩
theorem Lay.nice_con {w n : Int} (h0 : 0 ≤ w) (h1 : w < 1000000000000) (h2 : 1 ≤ n) (h3 : n < 1000000000000000000000) : (Lay.con w n).nice :=
  ⟨by rw [Lay.ok_con, decide_eq_true h0, decide_eq_true h2]; rfl, h1, h3⟩
theorem attOf_snoc (Ls : List Lay) (L : Lay) : attOf (Ls ++ [L]) = attOf Ls * L.cnt := by
  unfold attOf
  rw [List.foldl_append]
  rfl
theorem attOf_lt : ∀ n (Ls : List Lay), Ls.length = n → (∀ L ∈ Ls, L.ok = true ∧ L.cnt < 2 ^ 100) → 0 < attOf Ls ∧ (attOf Ls).natAbs < 2 ^ (100 * n + 1)
  | 0, Ls, e, _ => by
    have e' : Ls = [] := List.length_eq_zero_iff.mp e
    subst e'
    exact ⟨by decide, by decide⟩
  | n + 1, Ls, e, h => by
    have hne : Ls ≠ [] := fun z => by rw [z] at e; cases e
    obtain ⟨Ms, L, rfl⟩ : ∃ Ms L, Ls = Ms ++ [L] := ⟨_, _, (List.dropLast_concat_getLast hne).symm⟩
    rw [List.length_append] at e
    obtain ⟨i1, i2⟩ := attOf_lt n Ms (by simpa using e) fun M hM => h M (List.mem_append_left _ hM)
    obtain ⟨h1, h2⟩ := h L (List.mem_append_right _ List.mem_cons_self)
    have h3 := LayAt.con_pos h1
    rw [attOf_snoc]
    refine ⟨Int.mul_pos i1 (by omega), ?_⟩
    have z := wide_lt (i := attOf Ms) (j := L.cnt) (b := 100) i2 (by omega)
    rw [show 100 * (n + 1) + 1 = 100 * n + 1 + 100 by omega]
    exact z
theorem flatL_snoc (Ls : List Lay) (L : Lay) : flatL (Ls ++ [L]) = if L.cnt > 1 then nestL (flatL Ls) L.waits else flatL Ls := by
  unfold flatL
  rw [List.foldl_append]
  rfl
theorem waits_len {L : Lay} (h : L.ok = true) : (L.waits.length : Int) + 1 = L.cnt := by
  cases L with
  | pol ns => rfl
  | con w n =>
    have := LayAt.con_pos h
    have : 1 ≤ n := this
    show ((List.replicate (n - 1).toNat w).length : Int) + 1 = n
    rw [List.length_replicate]
    omega
theorem flatL_len : ∀ n (Ls : List Lay), Ls.length = n → (∀ L ∈ Ls, L.ok = true) → ((flatL Ls).length : Int) + 1 = attOf Ls
  | 0, Ls, e, _ => by
    have e' : Ls = [] := List.length_eq_zero_iff.mp e
    subst e'
    rfl
  | n + 1, Ls, e, h => by
    have hne : Ls ≠ [] := fun z => by rw [z] at e; cases e
    obtain ⟨Ms, L, rfl⟩ : ∃ Ms L, Ls = Ms ++ [L] := ⟨_, _, (List.dropLast_concat_getLast hne).symm⟩
    rw [List.length_append] at e
    have ih := flatL_len n Ms (by simpa using e) fun M hM => h M (List.mem_append_left _ hM)
    have h1 := h L (List.mem_append_right _ List.mem_cons_self)
    have h3 := LayAt.con_pos h1
    have h4 := waits_len h1
    rw [attOf_snoc, flatL_snoc, ← ih]
    split
    · have e5 := nestL_len (flatL Ms) L.waits
      rw [← h4]
      exact_mod_cast e5
    · have : L.cnt = 1 := by omega
      rw [this, Int.mul_one]
theorem attOf_part : ∀ (Ms Ls : List Lay), (∀ L ∈ Ls, L.ok = true) → (∀ L ∈ Ms, L.ok = true) → 1 ≤ attOf Ms ∧ attOf Ms ≤ attOf (Ms ++ Ls)
  | Ms, [], _, h => by
    rw [List.append_nil]
    refine ⟨?_, Int.le_refl _⟩
    have := flatL_len _ Ms rfl h
    omega
  | Ms, L :: Ls, h0, h => by
    have h1 := attOf_part (Ms ++ [L]) Ls (fun M hM => h0 M (List.mem_cons_of_mem _ hM)) (fun M hM => by
      rcases List.mem_append.mp hM with z | z
      · exact h M z
      · rw [List.mem_singleton.mp z]
        exact h0 L List.mem_cons_self)
    rw [List.append_assoc] at h1
    have h2 := LayAt.con_pos (h0 L List.mem_cons_self)
    have h3 := flatL_len _ Ms rfl h
    rw [attOf_snoc] at h1
    have h4 : attOf Ms * 1 ≤ attOf Ms * L.cnt := Int.mul_le_mul_of_nonneg_left h2 (by omega)
    refine ⟨by omega, ?_⟩
    have h5 : attOf Ms * L.cnt ≤ attOf (Ms ++ ([L] ++ Ls)) := h1.2
    have h6 : Ms ++ L :: Ls = Ms ++ ([L] ++ Ls) := rfl
    rw [h6]
    omega
theorem cnt_le {Ls : List Lay} (h : ∀ L ∈ Ls, L.ok = true) {L : Lay} (hL : L ∈ Ls) : L.cnt ≤ attOf Ls := by
  obtain ⟨As, Bs, rfl⟩ := List.append_of_mem hL
  have h1 := attOf_part As [] (fun _ z => nomatch z) (fun M hM => h M (List.mem_append_left _ hM))
  have h2 := attOf_part (As ++ [L]) Bs (fun M hM => h M (List.mem_append_right _ (List.mem_cons_of_mem _ hM))) (fun M hM => by
    rcases List.mem_append.mp hM with z | z
    · exact h M (List.mem_append_left _ z)
    · rw [List.mem_singleton.mp z]
      exact h L hL)
  have h3 := LayAt.con_pos (h L hL)
  rw [attOf_snoc, List.append_assoc] at h2
  have h4 : 1 * L.cnt ≤ attOf As * L.cnt := Int.mul_le_mul_of_nonneg_right h1.1 (by omega)
  have h5 : attOf As * L.cnt ≤ attOf (As ++ ([L] ++ Bs)) := h2.2
  have h6 : As ++ L :: Bs = As ++ ([L] ++ Bs) := rfl
  rw [h6]
  omega
theorem attOf_pos {Ls : List Lay} (h : ∀ L ∈ Ls, L.ok = true) : 1 ≤ attOf Ls := (attOf_part Ls [] (fun _ z => nomatch z) h).1
theorem part_left {t c left most : Int} (ht : 1 ≤ t) (hc : 1 ≤ c) (hl : c ≤ left) (h : t * left ≤ most) : 1 ≤ left / c ∧ t * c * (left / c) ≤ most := by
  refine ⟨by rw [Int.le_ediv_iff_mul_le (by omega)]; omega, ?_⟩
  have h1 : c * (left / c) ≤ left := by
    have := Int.mul_ediv_add_emod left c
    have := Int.emod_nonneg left (show c ≠ 0 by omega)
    omega
  rw [Int.mul_assoc]
  exact Int.le_trans (Int.mul_le_mul_of_nonneg_left h1 (by omega)) h
theorem le_left {t left most : Int} (ht : 1 ≤ t) (hl : 1 ≤ left) (h : t * left ≤ most) : t ≤ most := by
  have : t * 1 ≤ t * left := Int.mul_le_mul_of_nonneg_left hl (by omega)
  omega
theorem rep_flat {α : Type} (x : α) : ∀ m : Nat, (List.replicate m [x]).flatten = List.replicate m x
  | 0 => rfl
  | m + 1 => by
    rw [List.replicate_succ, List.flatten_cons, rep_flat x m, List.replicate_succ]
    rfl
def Lay.dat : Lay → PyData
  | .pol ns => dInts ns
  | .con w n => .tuple [.int w, .int n]
theorem dp_lay {K : PySem.W.Frag} {G : Hp} {v : V} {L : Lay} (h : LayAt G v L) : Dp K G v L.dat := by
  cases L with
  | pol ns => obtain ⟨p, rfl, hp⟩ := h; exact dp_ints (sql hp)
  | con w n => obtain ⟨p, rfl, hp⟩ := h; exact .tup (sqt hp) (.cons (.int w) (.cons (.int n) .nil))
theorem dp_lays {K : PySem.W.Frag} {G : Hp} : ∀ (vs : List V) (Ls : List Lay), vs.length = Ls.length → (∀ (i : Nat) v L, vs[i]? = some v → Ls[i]? = some L → LayAt G v L) → DpAll K G vs (Ls.map Lay.dat)
  | [], [], _, _ => .nil
  | [], _ :: _, h, _ => by cases h
  | _ :: _, [], h, _ => by cases h
  | v :: vs, L :: Ls, h, hat => .cons (dp_lay (hat 0 v L rfl rfl)) (dp_lays vs Ls (by simpa using h) fun i u M a b => hat (i + 1) u M a b)
theorem dp_nest {K : PySem.W.Frag} {G : Hp} {p : Addr} {Ls : List Lay} (h : NestAt G p Ls) : Dp K G (.ref p) (.list (Ls.map Lay.dat)) := by
  obtain ⟨vs, h1, h2, h3⟩ := h
  exact .lst (sql h1) (dp_lays vs Ls h2 h3)
theorem cut_one (xs : List V) : cutV xs none (some 1) = xs.take 1 := by
  unfold cutV
  rw [HT.sIx_none, show HT.sIx xs.length xs.length (some 1) = min 1 xs.length from HT.sIx_nat xs.length _ 1]
  cases xs with
  | nil => rfl
  | cons x r =>
    rw [show min 1 (x :: r).length = 1 by rw [List.length_cons]; omega]
    rfl
theorem flatL_con {w n : Int} (h0 : 0 ≤ w) (h1 : 1 ≤ n) : flatL [.con w n] = List.replicate (n - 1).toNat w := by
  rw [flatL_fold fun L hL => by rw [List.mem_singleton.mp hL, Lay.ok_con, decide_eq_true h0, decide_eq_true h1]; rfl]
  show nestL [] (List.replicate (n - 1).toNat w) = _
  rw [nil_nestL]
theorem NestV.low {H0 G : Hp} {a d p : Addr} {us : List V} {Ls : List Lay} (hv : NestV H0 (hid a d G) p us Ls) : NestAt G p Ls := by
  obtain ⟨z1, z2, z3, _⟩ := hv
  refine ⟨us, (hid_get z1).1, z2, fun i v L x y => ?_⟩
  have := z3 i v L x y
  cases L with
  | pol ns => obtain ⟨p, e, z⟩ := this; exact ⟨p, e, (hid_get z).1⟩
  | con w n => obtain ⟨p, e, z⟩ := this; exact ⟨p, e, (hid_get z).1⟩
theorem nice_cnt {L : Lay} (h : L.nice) : L.cnt < 2 ^ 100 := by
  obtain ⟨h0, h1⟩ := h
  cases L with
  | pol ns =>
    obtain ⟨h1, _⟩ := h1
    show (ns.length : Int) + 1 < 2 ^ 100
    omega
  | con w n =>
    obtain ⟨_, h1⟩ := h1
    show n < 2 ^ 100
    omega
theorem cut_n (xs : List V) (n : Nat) : cutV xs none (some (n : Int)) = xs.take n := by
  unfold cutV
  rw [HT.sIx_none, show HT.sIx xs.length xs.length (some (n : Int)) = min n xs.length from HT.sIx_nat xs.length _ n]
  show (xs.drop 0).take (min n xs.length - 0) = _
  rw [List.drop_zero, Nat.sub_zero]
  by_cases h : n ≤ xs.length
  · rw [Nat.min_eq_left h]
  · rw [Nat.min_eq_right (by omega), List.take_length, List.take_of_length_le (by omega)]
end Rn

set_option Elab.async false
set_option linter.all false
set_option maxRecDepth 100000
set_option maxHeartbeats 4000000
namespace Rn
open PySem PySem.Spec PyProof.Rows L2
/-! ## repr of data; a law entered where no list is being shown -/
section
variable {X : Cx} {K : PySem.W.Frag}
def rRepr (K : PySem.W.Frag) : List V → Hp → VK → Prop := fun xs H Q => ∃ (p : Addr) (d : PyData), xs = [.ref p] ∧ Dp K H (.ref p) d ∧ d.showable = true ∧ d.hasDict = false ∧ d.depth ≤ 50 ∧ d.shown.length ≤ sizeLine ∧ Q (.str d.shown) H
theorem call_repr {k : Nat} (hg : X.A.guards = some []) (hr : Room k X.A) : CallR X (.builtin "repr") (rRepr X.K) := by
  intro pins s σ H xs us Q I r h
  obtain ⟨p, d, rfl, hd, hs, hh, hdep, hz, q⟩ := h
  cases r with
  | cons r1 r2 =>
    cases r2
    cases r1
    obtain ⟨as, rd⟩ := Dp.reads I d _ _ hd rfl
    have hu := hr.units
    exact repr_of_reads' rd hs (PyData.noDict_hsm hh) hg (by omega) (fun _ _ e => e) (fun h' u tk hk => ⟨.str d.shown, H, I.kept (t' := tk) hk, ⟨u, rfl⟩, q⟩) hz
end
section
variable {P : Program} {w : World} {K : PySem.W.Frag} {mg : Str → Option Value} {base : Heap}
/-- a promise that is kept wherever nothing is being shown -/
def FnG (P : Program) (w : World) (K : PySem.W.Frag) (mg : Str → Option Value) (base : Heap) (k : Nat) (f : Addr) (fd : FuncData) (ps : List Str) (sp : Sp) : Prop :=
  ∀ (A : Around) (outer : List Env) (s : Shared) (H : Hp) (args : Args) (us : List Value) (vs : List V) (Q : VK) (E : XK), A.guards = some [] → Room k A → Env0 P w K mg base A outer s H →
    BindsTo s fd args (ps.zip us) → Vals vs us → vs.length = ps.length → sp vs H Q E → codeAny (model P w) A (.call (.ref f) args) (CR CX0 outer P w H s Q E) s
theorem okG {x qual : Str} {st : Stmt} {f : Addr} {fd : FuncData} {N ps : List Str} {k : Nat} {sp : Sp} (F : Fun K x qual st f fd) (S : FnScope N ps (defScope st))
    (hbody : ∀ (cdv : Value) (A : Around) (outer : List Env) (s : Shared) (H : Hp) (vs : List V) (Q : VK) (E : XK), A.guards = some [] → Room k (A.deeper (envOfC qual (defScope st) s.heap.objs.size f cdv)) → sp vs H Q E →
      ∃ t, PSs (cxOf CX0 P w K mg base N qual (defScope st) f cdv A outer s H E).nox (defBody st) t ∧ t { nx := fun _ H' => Q .non H', rt := Q } (start N vs) H) :
    FnG P w K mg base (k + 1) f fd ps sp := by
  obtain ⟨oc, od, kV, doc, pm, an, cdv, ct, osl, efd, look, code⟩ := F.ex
  subst efd
  intro A outer s H args us vs Q E guard room e0 bind rel hlen want
  have same : ∀ b o, base.get? b = some o → s.heap.get? b = some o := fun b o z => (e0.bs b o z).1
  refine Att.call_fn (e0.mod.kin.keeps same) (e0.mod.nolimit.keeps same) look code room.depth bind ?_ (fun s1 x1 => ?_) S.co S.gen S.kind
  · rw [List.all_eq_true]
    rintro ⟨n, v⟩ hm
    rcases S.par n (List.of_mem_zip hm).1 with z | z
    · simp [z]
    · simp [z]
  obtain ⟨t, ht, hq⟩ := hbody cdv A outer s H vs Q E guard (room.deeper _) want
  have start0 : Inv (cxOf CX0 P w K mg base N qual (defScope st) f cdv A outer s H E) [] (start N vs) H s1 := inv_start S room.hd e0 hlen rel x1
  refine wpAny_mono (ht.nox.run [] s1 _ H _ start0 hq) (fun flow s2 done => ?_) (fun _ _ z => z)
  cases flow with
  | brk => exact (by obtain ⟨_, _, _, z⟩ := done; exact False.elim z)
  | cont => exact (by obtain ⟨_, _, _, z⟩ := done; exact False.elim z)
  | next =>
    obtain ⟨_, H2, J, z⟩ := done
    exact ⟨.non, H2, J.os, J.bare, J.base, J.hok, rfl, z⟩
  | ret u =>
    obtain ⟨v, _, H2, J, rv, z⟩ := done
    exact ⟨v, H2, J.os, J.bare, J.base, J.hok, rv, z⟩
/-- the heap's view at a law's entry: the script is known to the object, unless it is one of the text's own -/
def seen (K : PySem.W.Frag) (a : Addr) (vs : List Value) (ns : List Int) : Hp := fun b =>
  if b = a ∧ K.lookup a = none then some (.frz { cls := .type "list", data := .seq vs.toArray } (.lst (ns.map V.int))) else none
theorem seen_some {a b : Addr} {vs : List Value} {ns : List Int} {o : HO} (h : seen K a vs ns b = some o) : b = a ∧ K.lookup a = none ∧ o = .frz { cls := .type "list", data := .seq vs.toArray } (.lst (ns.map V.int)) := by
  unfold seen at h
  by_cases z : b = a ∧ K.lookup a = none
  · rw [if_pos z] at h
    exact ⟨z.1, z.2, (Option.some.inj h).symm⟩
  · rw [if_neg z] at h
    cases h
theorem law_at {mb : Str → Option Value} {fa a : Addr} {s1 : Shared} {vs : List Value} {ns : List Int} (hK : K.In s1.heap) (hmg : s1.heap.Ns mainGlobals mg) (hmb : s1.heap.Ns builtinsNs mb)
    (hbo : ∀ x : Str, x ≠ "__name__" → mb x = bootBuiltins x) (lim : s1.heap.NoLimit) (gens : s1.gens = #[]) (here : s1.heap.get? a = some { cls := .type "list", data := .seq vs.toArray }) (nums : IntsAre vs ns) (few : ns.length ≤ 63)
    (run : ∀ (base : Heap) (H : Hp), K.In base → base.Ns mainGlobals mg → Env0 P w K mg base callerA [] s1 H → SqL K H a (ns.map V.int) → codeAny (model P w) callerA (.call (.ref fa) ⟨[.ref a], []⟩) (CR CX0 [] P w H s1 (fun v _ => v = .bl true) E0) s1) :
    codeAny (model P w) callerA (.call (.ref fa) ⟨[.ref a], []⟩) (fun r s' => r = .ok (.ret (.bool true)) ∧ OldK s1.heap s'.heap ∧ s'.os = s1.os ∧ AllBare s'.gens) s1 := by
  have rel := vals_ints nums
  have cnt := nums.length
  have notDict : ∀ {b : Addr} {m : Str → Option Value}, s1.heap.Ns b m → seen K a vs ns b = none := fun {b m} z => by
    obtain ⟨o, es, ep, e, d, _⟩ := z
    cases q : seen K a vs ns b with
    | none => rfl
    | some u =>
      obtain ⟨eb, _, _⟩ := seen_some q
      rw [eb, here] at e
      cases e
      cases d
  have shift : ∀ {b : Addr} {m : Str → Option Value}, s1.heap.Ns b m → (hidT s1.heap (seen K a vs ns)).Ns b m := fun z => by
    have n := notDict z
    obtain ⟨o, es, ep, e, r⟩ := z
    exact ⟨o, es, ep, hidT_get e n, r⟩
  have kin : K.In (hidT s1.heap (seen K a vs ns)) := fun b o e => hidT_get (hK b o e) (by
    cases q : seen K a vs ns b with
    | none => rfl
    | some u =>
      obtain ⟨eb, en, _⟩ := seen_some q
      rw [eb, en] at e
      cases e)
  have hok : HOk P w (seen K a vs ns) s1.heap := fun b o e => by
    obtain ⟨rfl, _, rfl⟩ := seen_some e
    exact ⟨here, size_le (by rw [List.length_map]; omega), vs, _, rel, here⟩
  have env : Env0 P w K mg (hidT s1.heap (seen K a vs ns)) callerA [] s1 (seen K a vs ns) :=
    ⟨rfl, ⟨kin, shift hmg, ⟨mb, shift hmb, hbo⟩, by obtain ⟨mc, z1, z2⟩ := lim; exact ⟨mc, shift z1, z2⟩⟩, fun b o e => of_hidT e, Nat.le_of_eq (hidT_size _ _), trivial, (fun b z => nomatch z), hok, .of_eq gens⟩
  have script : SqL K (seen K a vs ns) a (ns.map V.int) := by
    cases q : K.lookup a with
    | none => exact .inl (.inr ⟨_, if_pos ⟨rfl, q⟩⟩)
    | some o =>
      have e := hK a o q
      rw [here] at e
      cases e
      exact .inr ⟨_, vs.toArray, _, q, rfl, rfl, rfl, by rw [List.size_toArray, cnt]; exact size_le (by omega), by simpa using rel⟩
  refine codeAny_mono (run _ _ kin (shift hmg) env script) fun r s' z => ?_
  cases r with
  | error e => exact False.elim z
  | ok flow =>
    cases flow with
    | brk => exact False.elim z
    | cont => exact False.elim z
    | next => exact False.elim z
    | ret u =>
      obtain ⟨v, H', os, bare, un, hok', rv, (rfl : v = .bl true)⟩ := z
      cases (show u = Value.bool true from rv)
      refine ⟨rfl, OldK.of_keep fun b o e => ?_, os, bare⟩
      cases q : seen K a vs ns b with
      | none => exact un.keep b o e q (fun z => nomatch z) (fun z => nomatch z)
      | some y =>
        obtain ⟨_, _, rfl⟩ := seen_some q
        obtain ⟨e2, _⟩ := hok' b _ (un.frzs b _ _ q)
        obtain ⟨e1, _⟩ := hok b _ q
        rw [e] at e1
        cases e1
        exact e2
end
/-- the walk's end for a law that shows lists -/
theorem walk_G {l : PySem.W.OpenLaw} {k : Nat} {q : Program} {loose : List Str} {XP : (Str → Option Value) → Heap → Prop} {YP : World → Heap → Prop} {d : DefRec} {K : Params → PySem.W.Frag} {sp : PySem.W.Frag → Sp}
    (hn : l.most = some 63) (hdf : d.params.defaults = []) (hr : Room k callerA) (hY : ∀ (w : World) (h : Heap), YP w h → (K w.params).In h)
    (F : ∀ (w : World) (mg : Str → Option Value) (fa : Addr) (h : Heap), (K w.params).In h → h.Ns mainGlobals mg → mg d.name = some (.ref fa) →
      ∃ fd : FuncData, (∀ (s : Shared) (u : Value), BindsTo s fd ⟨[u], []⟩ [("script", u)]) ∧ ∀ base : Heap, (K w.params).In base → base.Ns mainGlobals mg → FnG l.prog w (K w.params) mg base k fa fd ["script"] (sp (K w.params)))
    (hsp : ∀ (K : PySem.W.Frag) (H : Hp) (a : Addr) (ns : List Int), ns.length ≤ 63 → SqL K H a (ns.map V.int) → sp K [.ref a] H (fun v _ => v = .bl true) E0) :
    PySem.W.WalkO q loose XP YP l.row.toRowW d [] (fun f vs => PySem.call f vs) := by
  refine Att.attach_call hn hdf fun w s0 s1 mg mb fa o pm cd doc a vs ns G Y _ _ _ hmg here nums few gens => ?_
  obtain ⟨fd, bind, run⟩ := F w mg fa _ (hY w _ Y) G.T.g hmg
  exact law_at (hY w _ Y) G.T.g G.T.b G.T.builtins G.T.nolimit gens here nums few fun base H kin ns1 env script =>
    run base kin ns1 callerA [] s1 H _ [.ref a] [.ref a] _ _ rfl hr env (bind s1 (.ref a)) (.cons rfl .nil) rfl (hsp _ H a ns few script)
end Rn
namespace Rn
open PySem PySem.Spec PyProof.Rows L2
/-! ## calls by keywords alone -/
def tCallKw (sp : Sp) (gV : List V → List V → List V) (E : XK) (tk : TA) : TE := fun σ H Q => tk σ H fun zs H1 => sp (gV [] zs) H1 Q E
section
variable {X : Cx} {CX : CXT} {k : Nat} {f : Addr} {fd : FuncData} {ps ks : List Str} {sp : Sp} {E : XK} {x : Str} {p pos : Pos} {kws : List Keyword} {tk : TA} {g : List Value → List Value → List Value} {gV : List V → List V → List V}
theorem pe_callKw (F : FnOk X.prog X.w X.K X.mg X.base CX k f fd ps sp) (room : Room k X.A) (hg : Gl X x) (here : X.mg x = some (.ref f)) (keep : PySem.W.keepIn X.K (.ref f) = true) (bind : KBinds X.K fd ps ks g gV) (out : Passes CX X E)
    (hkw : PK X kws tk) (named : (backToKw pos (keywordEach kws X.env)).all (·.1.isSome) = true := by rfl) (order : (backToKw pos (keywordEach kws X.env)).filterMap (·.1) = ks := by rfl)
    (nodebug : (x == ("__debug__" : Str)) = false := by decide) (plain : ((backTo pos (starEach [] X.env)).any (·.1) || (backToKw pos (keywordEach kws X.env)).any (·.1.isNone)) = false := by rfl) :
    PE X (.Call (.Name x p) [] kws pos) (tCallKw sp gV E tk) := by
  constructor
  intro pins s σ H Q I h
  refine wpAny_Call_Name_kw (ld_glob I hg here ?_ nodebug)
  refine PySem.W.callWith_KW0 (h₀ := X.base) I.ok.mod.kin keep named (thn (hkw.run pos pins s σ H _ I h) fun ws s2 z => ?_) plain
  obtain ⟨zs, H2, I2, rz, q2⟩ := z
  rw [order]
  exact ⟨I2.kIn, run_fnk (us := []) (vs := []) F room bind out I2 .nil rz q2⟩
end
def kw1 {α : Type} : List α → List α → List α
  | [], [a] => [a]
  | _, _ => []
def kw2r {α : Type} : List α → List α → List α
  | [], [a, b] => [b, a]
  | _, _ => []
section
variable {K : PySem.W.Frag} {fd : FuncData} {p q : Str}
theorem kb1 (h : ∀ (s : Shared) (a : Value), BindsTo s fd ⟨[], [(p, a)]⟩ [(p, a)]) : KBinds K fd [p] [p] kw1 kw1 := by
  refine ⟨fun s us ws _ hl => ?_, fun {vs us zs ws} r1 r2 => ?_⟩
  · match us, ws, hl with
    | [], [a], _ => exact h s a
  · cases r1 with
    | cons _ _ => exact .nil
    | nil =>
      cases r2 with
      | nil => exact .nil
      | cons a r =>
        cases r with
        | nil => exact .cons a .nil
        | cons _ _ => exact .nil
theorem kb2r (h : ∀ (s : Shared) (a b : Value), BindsTo s fd ⟨[], [(q, a), (p, b)]⟩ [(p, b), (q, a)]) : KBinds K fd [p, q] [q, p] kw2r kw2r := by
  refine ⟨fun s us ws _ hl => ?_, fun {vs us zs ws} r1 r2 => ?_⟩
  · match us, ws, hl with
    | [], [a, b], _ => exact h s a b
  · cases r1 with
    | cons _ _ => exact .nil
    | nil =>
      cases r2 with
      | nil => exact .nil
      | cons a r =>
        cases r with
        | nil => exact .nil
        | cons b r =>
          cases r with
          | nil => exact .cons b (.cons a .nil)
          | cons _ _ => exact .nil
end
/-! ## data that can be shown -/
structure Shw (d : PyData) (W D : Nat) : Prop where
  show1 : d.showable = true
  plain : d.hasDict = false
  short : d.leavesShort 25 = true
  heavy : d.weight ≤ W
  deep : d.depth ≤ D
theorem Shw.fits {d : PyData} {W D : Nat} (s : Shw d W D) (h : W ≤ 500000) : d.shown.length ≤ sizeLine := by
  have h1 := PyData.shown_le 25 (by decide) d s.short
  have h2 := s.heavy
  have h3 : (25 + 2) * d.weight ≤ 27 * 500000 := Nat.mul_le_mul (by decide) (by omega)
  rw [sizeLine_eq]
  omega
theorem log_lt {i : Int} (h : i.natAbs < 10 ^ 24) : i.natAbs.log2 < 80 := PySem.Flt.log2_lt_of (k := 80) (by decide) (Nat.lt_trans h (by decide))
theorem Shw.int {i : Int} (h : i.natAbs < 10 ^ 24) : Shw (.int i) 80 1 := by
  have h1 := log_lt h
  refine ⟨?_, rfl, ?_, ?_, ?_⟩
  · simp only [PyData.showable, decide_eq_true_eq]
    omega
  · simp only [PyData.leavesShort, decide_eq_true_eq]
    have e := int_text_length_le10 (k := 24) (by decide) h
    show (Str.ofString (toString i)).length ≤ 25
    rw [PySem.ofString_length]
    exact e
  · simp only [PyData.weight]
    split
    · omega
    · omega
  · simp only [PyData.depth]
    omega
theorem Shw.all {W D : Nat} : ∀ ds : List PyData, (∀ d ∈ ds, Shw d W D) → PyData.showableAll ds = true ∧ PyData.hasDictAll ds = false ∧ PyData.leavesShortAll 25 ds = true ∧ PyData.weightAll ds ≤ ds.length * (W + 1) ∧ PyData.depthAll ds ≤ D
  | [], _ => ⟨rfl, rfl, rfl, Nat.zero_le _, Nat.zero_le _⟩
  | d :: ds, h => by
    obtain ⟨a1, a2, a3, a4, a5⟩ := Shw.all ds fun e he => h e (List.mem_cons_of_mem _ he)
    obtain ⟨b1, b2, b3, b4, b5⟩ := h d List.mem_cons_self
    refine ⟨?_, ?_, ?_, ?_, ?_⟩
    · simp only [PyData.showableAll, b1, a1, Bool.and_self]
    · simp only [PyData.hasDictAll, b2, a2, Bool.or_self]
    · simp only [PyData.leavesShortAll, b3, a3, Bool.and_self]
    · simp only [PyData.weightAll, List.length_cons, Nat.succ_mul]
      omega
    · simp only [PyData.depthAll]
      omega
theorem Shw.list {W D : Nat} {ds : List PyData} (h : ∀ d ∈ ds, Shw d W D) : Shw (.list ds) (ds.length * (W + 1)) (D + 1) := by
  obtain ⟨a1, a2, a3, a4, a5⟩ := Shw.all ds h
  exact ⟨by simpa only [PyData.showable] using a1, by simpa only [PyData.hasDict] using a2, by simpa only [PyData.leavesShort] using a3, by simpa only [PyData.weight] using a4, by simp only [PyData.depth]; omega⟩
theorem Shw.tuple {W D : Nat} {ds : List PyData} (h : ∀ d ∈ ds, Shw d W D) : Shw (.tuple ds) (ds.length * (W + 1)) (D + 1) := by
  obtain ⟨a1, a2, a3, a4, a5⟩ := Shw.all ds h
  exact ⟨by simpa only [PyData.showable] using a1, by simpa only [PyData.hasDict] using a2, by simpa only [PyData.leavesShort] using a3, by simpa only [PyData.weight] using a4, by simp only [PyData.depth]; omega⟩
theorem Shw.mono {d : PyData} {W W' D D' : Nat} (s : Shw d W D) (h : W ≤ W') (h' : D ≤ D') : Shw d W' D' := ⟨s.1, s.2, s.3, Nat.le_trans s.4 h, Nat.le_trans s.5 h'⟩
theorem Shw.nums {ns : List Int} (h : ∀ x ∈ ns, x.natAbs < 10 ^ 24) : Shw (dInts ns) (ns.length * 81) 2 := by
  have := Shw.list (ds := ns.map .int) (W := 80) (D := 1) fun d hd => by
    obtain ⟨x, hx, rfl⟩ := List.mem_map.mp hd
    exact Shw.int (h x hx)
  rw [List.length_map] at this
  exact this
theorem Shw.two {d e : PyData} {W D : Nat} (h1 : Shw d W D) (h2 : Shw e W D) : Shw (.list [d, e]) (2 * (W + 1)) (D + 1) :=
  Shw.list (ds := [d, e]) fun x hx => by
    simp only [List.mem_cons, List.not_mem_nil, or_false] at hx
    rcases hx with rfl | rfl
    · exact h1
    · exact h2
theorem ne_str {x y : Str} {A B : Prop} (h : x = y) (b : B) : if (!decide (V.str x = V.str y)) = true then A else B := by
  rw [h, decide_eq_true rfl]
  exact iteF b
theorem Shw.lay {L : Lay} (h : L.nice) : Shw L.dat 4860 2 := by
  obtain ⟨h0, h1⟩ := h
  cases L with
  | pol ns =>
    obtain ⟨h1, h2⟩ := h1
    exact (Shw.nums fun x hx => by have := h2 x hx; omega).mono (by omega) (Nat.le_refl _)
  | con w n =>
    obtain ⟨h1, h2⟩ := h1
    have h3 := LayAt.con_pos h0
    have h3 : 1 ≤ n := h3
    rw [Lay.ok_con, Bool.and_eq_true] at h0
    have h4 := of_decide_eq_true h0.1
    refine (Shw.tuple (ds := [.int w, .int n]) (W := 80) (D := 1) fun d hd => ?_).mono (by show 2 * 81 ≤ 4860; decide) (Nat.le_refl _)
    simp only [List.mem_cons, List.not_mem_nil, or_false] at hd
    rcases hd with rfl | rfl
    · exact Shw.int (by omega)
    · exact Shw.int (by omega)
theorem Shw.nest {Ls : List Lay} {m : Nat} (h : ∀ L ∈ Ls, L.nice) (hl : Ls.length ≤ m) : Shw (.list (Ls.map Lay.dat)) (m * 4861) 3 := by
  refine (Shw.list (ds := Ls.map Lay.dat) (W := 4860) (D := 2) fun d hd => ?_).mono (by rw [List.length_map]; exact Nat.mul_le_mul_right _ hl) (Nat.le_refl _)
  obtain ⟨L, hL, rfl⟩ := List.mem_map.mp hd
  exact Shw.lay (h L hL)
end Rn

set_option Elab.async false
set_option linter.all false
set_option maxRecDepth 100000
set_option maxHeartbeats 4000000
namespace Rn
open PySem PySem.Spec PyProof.Rows L2
/-! ## calls of a def that shows lists, where nothing is being shown -/
structure FnH (P : Program) (w : World) (K : PySem.W.Frag) (mg : Str → Option Value) (base : Heap) (k : Nat) (f : Addr) (fd : FuncData) (ps : List Str) (sp : Sp) : Prop where
  len : ∀ vs H Q E, sp vs H Q E → vs.length = ps.length
  run : FnG P w K mg base k f fd ps sp
theorem FnH.mono {P : Program} {w : World} {K : PySem.W.Frag} {mg : Str → Option Value} {base : Heap} {j k : Nat} {f : Addr} {fd : FuncData} {ps : List Str} {sp : Sp} (F : FnH P w K mg base j f fd ps sp) (h : j ≤ k) : FnH P w K mg base k f fd ps sp :=
  ⟨F.len, fun A outer s H args us vs Q E gu hr => F.run A outer s H args us vs Q E gu (hr.mono h)⟩
section
variable {X : Cx} {k : Nat} {f : Addr} {fd : FuncData} {ps : List Str} {sp : Sp} {E : XK} {x : Str} {e : Expr} {es : List Expr} {t : TA} {p pos : Pos}
theorem run_fnG {pins : List (Addr × Obj)} {σ : L2.St} {H : Hp} {s : Shared} {Q : VK} {us : List Value} {vs : List V} (F : FnH X.prog X.w X.K X.mg X.base k f fd ps sp) (gu : X.A.guards = some []) (hr : Room k X.A) (hb : Binds X.K fd ps []) (hx : Passes CX0 X E)
    (I : Inv X pins σ H s) (r : Vals vs us) (h : sp (vs ++ []) H Q E) : wpAny (model X.prog X.w) X.A (call (.ref f) us) (EP X pins σ Q) X.xe s := by
  have r2 : Vals (vs ++ []) (us ++ []) := r.append .nil
  have hl : (us ++ []).length = ps.length := by rw [← r2.length]; exact F.len _ _ _ _ h
  refine wpAny_call (codeAny_mono (F.run X.A X.stack s H ⟨us, []⟩ (us ++ []) (vs ++ []) Q E gu hr I.env0 (hb s us I.kIn hl) r2 (F.len _ _ _ _ h) h) fun r s' hq => ?_)
  cases r with
  | error e => exact hx pins σ H s e s' I hq
  | ok fl =>
    cases fl with
    | ret u => exact I.after hq
    | next => exact False.elim hq
    | brk => exact False.elim hq
    | cont => exact False.elim hq
theorem pe_callG (F : FnH X.prog X.w X.K X.mg X.base k f fd ps sp) (gu : X.A.guards = some []) (hr : Room k X.A) (hg : Gl X x) (hm : X.mg x = some (.ref f)) (hk : PySem.W.keepIn X.K (.ref f) = true) (hb : Binds X.K fd ps []) (hx : Passes CX0 X E)
    (ha : PA X (e :: es) t) (hdb : (x == ("__debug__" : Str)) = false := by decide) (he : starEach (e :: es) X.env = (false, eval e X.env) :: starEach es X.env := by rfl) (hpl : (backTo pos (starEach es X.env)).any (·.1) = false := by rfl) :
    PE X (.Call (.Name x p) (e :: es) [] pos) (tCall sp [] E t) := by
  refine ⟨fun pins s σ H Q I h => ?_⟩
  refine wpAny_Call_Name_kw (ld_glob I hg hm ?_ hdb)
  refine PySem.W.callWith_K (h₀ := X.base) I.ok.mod.kin hk (thn (ha.run pos pins s σ H _ I h) fun us s1 ⟨vs, H1, I1, r, q⟩ => ⟨I1.kIn, ?_⟩) he hpl
  exact run_fnG F gu hr hb hx I1 r q
end
end Rn
namespace Rn
open PySem PySem.Spec PyProof.Rows L2
/-! ## repr of None, a bool, an int -/
def rReprS : List V → Hp → VK → Prop := fun xs H Q => (xs = [.non] ∧ Q (.str "None") H) ∨ (∃ b, xs = [.bl b] ∧ Q (.str (if b then "True" else "False")) H) ∨ (∃ i : Int, xs = [.int i] ∧ i.natAbs.log2 < 1920 ∧ Q (.str (toString i)) H)
section
variable {X : Cx}
theorem call_reprS : CallR X (.builtin "repr") rReprS := by
  intro pins s σ H xs us Q I r h
  rcases h with ⟨rfl, q⟩ | ⟨b, rfl, q⟩ | ⟨i, rfl, hi, q⟩
  · cases r with
    | cons r1 r2 =>
      cases r2
      cases r1
      exact PySem.P.repr_of_none ⟨.str _, H, I.tok _, ⟨_, rfl⟩, q⟩
  · cases r with
    | cons r1 r2 =>
      cases r2
      cases r1
      exact PySem.P.repr_of_bool ⟨.str _, H, I.tok _, ⟨_, rfl⟩, q⟩
  · cases r with
    | cons r1 r2 =>
      cases r2
      obtain ⟨t, rfl⟩ := r1
      exact PySem.P.repr_of_int hi ⟨.str _, H, I.tok _, ⟨_, rfl⟩, q⟩
end
end Rn

set_option Elab.async false
set_option linter.all false
set_option maxRecDepth 100000
set_option maxHeartbeats 4000000
namespace Rn
open PySem PySem.Spec PyProof.Rows L2
/-! ## ** of great ints -/
def CPowW (i j : Int) : Prop := 0 ≤ j ∧ (Builtin.Int.intBits i : Int) * j ≤ 2 ^ 27
theorem op_powW {X : Cx} : OpR X (binaryOp .Pow) (rI CPowW fun i j => .int (i ^ j.toNat)) := opI fun _ _ _ _ _ _ _ hc q => pow_int hc.1 hc.2 q
theorem pow_ok {i : Int} {k : Nat} (h : i.natAbs < 2 ^ k) (h0 : 0 < k) (hk : k ≤ 1000) : CPowW i 3 := by
  refine ⟨by decide, ?_⟩
  have h1 := PySem.Flt.log2_lt_of h0 h
  have h2 : Builtin.Int.intBits i ≤ i.natAbs.log2 + 1 := by
    unfold Builtin.Int.intBits
    split <;> omega
  omega
/-! ## the other source of draws: three ints in one list -/
def Rng (H : Hp) (a : Addr) (n : Int) : Prop := ∃ dg seed cnt : Int, H a = some (.lst [.int dg, .int seed, .int cnt]) ∧ 0 ≤ seed ∧ seed < 4000000000000000000 ∧ 0 ≤ cnt ∧ cnt ≤ n
theorem Rng.same {H H' : Hp} {a : Addr} {n : Int} (s : Rng H a n) (e : Same H H') : Rng H' a n := by
  obtain ⟨dg, seed, cnt, h, r⟩ := s
  exact ⟨dg, seed, cnt, e _ _ h, r⟩
theorem Rng.keep {H : Hp} {a p : Addr} {o : HO} {n : Int} (s : Rng H a n) (ha : p ≠ a) : Rng (upd H p o) a n := by
  obtain ⟨dg, seed, cnt, h, r⟩ := s
  exact ⟨dg, seed, cnt, by rw [upd_ne ha.symm]; exact h, r⟩
theorem Rng.mono {H : Hp} {a : Addr} {n m : Int} (s : Rng H a n) (h : n ≤ m) : Rng H a m := by
  obtain ⟨dg, seed, cnt, h1, h2, h3, h4, h5⟩ := s
  exact ⟨dg, seed, cnt, h1, h2, h3, h4, Int.le_trans h5 h⟩
theorem Rng.new1 {H : Hp} {a p : Addr} {n : Int} (s : Rng H a n) (h : H p = none) : p ≠ a := by
  obtain ⟨dg, seed, cnt, h1, _⟩ := s
  exact (ne_of_none h1 h).symm
structure Rdv (a : Addr) (c : Int) (H H' : Hp) : Prop where
  same : Same (hid a a H) (hid a a H')
  src : ∀ n, Rng H a n → Rng H' a (n + c)
theorem Rdv.refl {a : Addr} {H : Hp} : Rdv a 0 H H := ⟨Same.refl _, fun n s => s.mono (by omega)⟩
theorem Rdv.trans {a : Addr} {c c' e : Int} {H H1 H2 : Hp} (x : Rdv a c H H1) (y : Rdv a c' H1 H2) (h : c + c' ≤ e) : Rdv a e H H2 :=
  ⟨x.same.trans y.same, fun n s => (y.src _ (x.src _ s)).mono (by omega)⟩
theorem Rdv.mono {a : Addr} {c e : Int} {H H1 : Hp} (x : Rdv a c H H1) (h : c ≤ e) : Rdv a e H H1 := ⟨x.same, fun n s => (x.src _ s).mono (by omega)⟩
theorem Rdv.of {a : Addr} {H H' : Hp} (e : Same H H') : Rdv a 0 H H' := ⟨hid_same e, fun n s => (s.same e).mono (by omega)⟩
theorem Rdv.mut {a : Addr} {c : Int} {H H' : Hp} {p : Addr} {o : HO} {n : Int} (x : Rdv a c H H') (s : Rng H a n) (h : H p = none) : Rdv a c H (upd H' p o) := by
  have h1 := s.new1 h
  refine ⟨?_, fun m t => (x.src m t).keep h1⟩
  rw [hid_oth h1 h1]
  exact same_keep x.same (hid_none h)
theorem Rdv.free {a p : Addr} {c n : Int} {H H' : Hp} (x : Rdv a c H H') (s : Rng H a n) (h : H' p = none) : H p = none := by
  have h1 := (x.src n s).new1 h
  cases q : H p with
  | none => rfl
  | some o =>
    have e := (hid_get (x.same p o (hid_at q h1 h1))).1
    rw [h] at e
    cases e
theorem Rdv.made {a : Addr} {c dg seed cnt dg' cnt' : Int} {H H' : Hp} (e : Same (hid a a H) (hid a a H')) (h : H a = some (.lst [.int dg, .int seed, .int cnt]))
    (h' : H' a = some (.lst [.int dg', .int seed, .int cnt'])) (h0 : cnt ≤ cnt') (h1 : cnt' ≤ cnt + c) : Rdv a c H H' := by
  refine ⟨e, fun n s => ?_⟩
  obtain ⟨d2, s2, c2, a1, a3, a4, a5, a6⟩ := s
  rw [h] at a1
  cases a1
  exact ⟨dg', seed, cnt', h', a3, a4, by omega, by omega⟩
theorem ne_val {x y : V} {A B : Prop} (h : x = y) (b : B) : if (!decide (x = y)) = true then A else B := by
  rw [h, decide_eq_true rfl]
  exact iteF b
/-! ## an expression cut off by a word of its own -/
def tCutE (t : TE) : TE := fun σ H Q => ∃ R : V → Hp → Prop, t σ H R ∧ ∀ v H', R v H' → Q v H'
theorem pe_cutE {X : Cx} {e : Expr} {t : TE} (h : PE X e t) : PE X e (tCutE t) := ⟨fun pins s σ H Q I hw =>
  let ⟨R, h1, h2⟩ := hw
  thn (h.run pins s σ H R I h1) fun v s1 ⟨x, H1, I1, r1, q1⟩ => ⟨x, H1, I1, r1, h2 _ _ q1⟩⟩
end Rn

set_option Elab.async false
set_option linter.all false
set_option maxRecDepth 100000
set_option maxHeartbeats 4000000
namespace Rn
open PySem PySem.Spec PyProof.Rows L2
/-! ## slices between numbers, and by steps -/
theorem cut_mid (xs : List V) (a b : Nat) : cutV xs (some (a : Int)) (some (b : Int)) = (xs.drop a).take (b - a) := by
  unfold cutV
  rw [show HT.sIx xs.length 0 (some (a : Int)) = min a xs.length from HT.sIx_nat xs.length _ a, show HT.sIx xs.length xs.length (some (b : Int)) = min b xs.length from HT.sIx_nat xs.length _ b]
  by_cases ha : a ≤ xs.length
  · rw [Nat.min_eq_left ha]
    by_cases hb : b ≤ xs.length
    · rw [Nat.min_eq_left hb]
    · rw [Nat.min_eq_right (by omega), List.take_of_length_le (by rw [List.length_drop]; omega), List.take_of_length_le (by rw [List.length_drop]; omega)]
  · rw [show min a xs.length = xs.length by omega, List.drop_eq_nil_of_le (Nat.le_refl _), List.drop_eq_nil_of_le (show xs.length ≤ a by omega), List.take_nil, List.take_nil]
/-- xs[lo], xs[lo + c], .. -/
def pks {α : Type} (xs : List α) (lo c : Nat) : List α := ((List.range ((xs.length - lo + c - 1) / c)).map fun k => lo + c * k).filterMap fun i => xs[i]?
theorem pks_map {α β : Type} (f : α → β) (xs : List α) (lo c : Nat) : pks (xs.map f) lo c = (pks xs lo c).map f := by
  unfold pks
  rw [List.length_map, List.map_filterMap]
  congr 1
  funext i
  rw [List.getElem?_map]
theorem vals_at {xs : List V} {us : List Value} (h : Vals xs us) : ∀ is : List Nat, Vals (is.filterMap fun i => xs[i]?) (is.filterMap fun i => us[i]?)
  | [] => .nil
  | i :: is => by
    have ih := vals_at h is
    by_cases hi : i < xs.length
    · obtain ⟨u, hu, r⟩ := Vals.get h (List.getElem?_eq_getElem hi)
      rw [List.filterMap_cons_some (List.getElem?_eq_getElem hi), List.filterMap_cons_some hu]
      exact .cons r ih
    · rw [List.filterMap_cons_none (List.getElem?_eq_none (by omega)), List.filterMap_cons_none (List.getElem?_eq_none (by rw [← h.length]; omega))]
      exact ih
theorem pick_k (its : Array Value) (lo c : Nat) (hl : lo ≤ its.size) (hc : 1 ≤ c) : (slicePick its (some (lo : Int)) none (some (c : Int))).toList = pks its.toList lo c := by
  have hb : sliceBounds (some (lo : Int)) none (some (c : Int)) its.size = ((lo : Int), (its.size : Int), (c : Int)) := by
    unfold sliceBounds
    simp only [Option.getD_some]
    rw [if_pos (show (c : Int) > 0 by omega), if_neg (show ¬ (lo : Int) < 0 by omega)]
    refine Prod.ext ?_ (Prod.ext ?_ rfl)
    · show max 0 (min (lo : Int) its.size) = (lo : Int)
      omega
    · show (if (c : Int) > 0 then (its.size : Int) else _) = _
      rw [if_pos (show (c : Int) > 0 by omega)]
  unfold slicePick pks
  rw [hb]
  have hr : sliceRange (lo : Int) (its.size : Int) (c : Int) = (List.range ((its.toList.length - lo + c - 1) / c)).map fun k => lo + c * k := by
    unfold sliceRange
    have hn : (if (c : Int) > 0 then (if (lo : Int) < (its.size : Int) then ((its.size : Int) - lo + c - 1) / c else 0) else (if (lo : Int) > (its.size : Int) then ((lo : Int) - its.size - c - 1) / (-c) else 0)).toNat = (its.toList.length - lo + c - 1) / c := by
      rw [if_pos (show (c : Int) > 0 by omega), Array.length_toList]
      split
      · rw [show (its.size : Int) - lo + c - 1 = ((its.size - lo + c - 1 : Nat) : Int) by omega]
        rfl
      · rw [show its.size - lo + c - 1 = c - 1 by omega, Nat.div_eq_of_lt (by omega)]
        rfl
    simp only []
    rw [hn]
    refine List.map_congr_left fun k _ => ?_
    have : (c : Int) * (k : Int) = ((c * k : Nat) : Int) := by rw [Int.natCast_mul]
    rw [this]
    omega
  show (((sliceRange (lo : Int) (its.size : Int) (c : Int)).filterMap (its[·]?)).toArray).toList = _
  rw [hr]
  simp only [Array.getElem?_toList]
def tSkip (K : PySem.W.Frag) (te tl ts : TE) : TE := fun σ H Q => te σ H fun v H1 => tPart tl σ H1 fun l H2 => tPart ts σ H2 fun o H3 => ∃ lo c : Nat, l = some (lo : Int) ∧ o = some (c : Int) ∧ 1 ≤ c ∧
  ∃ (a : Addr) (xs : List V), v = .ref a ∧ SqL K H3 a xs ∧ lo ≤ xs.length ∧ xs.length ≤ 100000 ∧ ∀ p, H3 p = none → Q (.ref p) (upd H3 p (.lst (pks xs lo c)))
theorem pks_len {α : Type} (xs : List α) (lo c : Nat) (hc : 1 ≤ c) : (pks xs lo c).length ≤ xs.length := by
  unfold pks
  refine Nat.le_trans (List.length_filterMap_le _ _) ?_
  rw [List.length_map, List.length_range]
  by_cases h : xs.length - lo = 0
  · rw [h, Nat.div_eq_of_lt (by omega)]
    exact Nat.zero_le _
  · have : (xs.length - lo + c - 1) / c ≤ xs.length - lo := by
      rw [Nat.div_le_iff_le_mul (by omega)]
      have h1 : (xs.length - lo - 1) * 1 ≤ (xs.length - lo - 1) * c := Nat.mul_le_mul_left _ hc
      have h2 : (xs.length - lo) * c = (xs.length - lo - 1) * c + c := by
        rw [← Nat.succ_mul]
        congr 1
        omega
      omega
    omega
theorem pe_skip {X : Cx} {e el es : Expr} {te tl ts : TE} {p3 pos : Pos} (he : PE X e te) (hl : PE X el tl) (hs : PE X es ts) : PE X (.Subscript e (.Slice (some el) none (some es) p3) pos) (tSkip X.K te tl ts) := by
  constructor
  intro pins s σ H Q I h
  refine Subscript_ (thn (he.run pins s σ H _ I h) fun v s1 z1 => ?_)
  obtain ⟨xv, H1, I1, r1, q1⟩ := z1
  refine wpAny_Slice (thn ((po_some hl).run pins s1 σ H1 _ I1 q1) fun vl s2 z2 => ?_)
  obtain ⟨l, G2, I2, pl, q2⟩ := z2
  refine thn (po_none.run pins s2 σ G2 (fun o G => o = none ∧ G = G2) I2 ⟨rfl, rfl⟩) fun vu s3 z3 => ?_
  obtain ⟨u, G3, I3, pu, rfl, rfl⟩ := z3
  refine thn ((po_some hs).run pins s3 σ G3 _ I3 q2) fun vs s4 z4 => ?_
  obtain ⟨o, G4, I4, pst, lo, c, rfl, rfl, hc, a, xs, rfl, hx, hlo, hsz, q⟩ := z4
  cases r1
  have I5 : Inv X pins σ G4 { s4 with heap := s4.heap.push { cls := .type "slice", data := .fields #[vl, vu, vs] } } := I4.kept (t' := s4.toks) fun b ob z => Heap.get?_push_of_some _ z
  obtain ⟨its, rel, plain, room⟩ := I5.list hx
  have many : its.length = xs.length := rel.length.symm
  show wpAny (model X.prog X.w) X.A (subscriptTail e (.Slice (some el) none (some es) p3) (.ref a) (.ref s4.heap.objs.size)) (EP X pins σ Q) X.xe { s4 with heap := s4.heap.push { cls := .type "slice", data := .fields #[vl, vu, vs] } }
  refine tail_any (ops := [.ref a, .ref s4.heap.objs.size]) plain.isList.typeIs (PySem.slot_list_getitem.lookup) ?_ (by with_unfolding_all rfl)
  refine wpAny_getItem_list_slice plain.isList (Heap.IsSliceOf.new _ vl vu vs) pl pu pst (by intro z; injection z with z; omega) ?_ (by rw [List.size_toArray, many]; exact size_le hsz)
  have hp := pick_k its.toArray lo c (by rw [List.size_toArray, many]; exact hlo) hc
  have hv : Vals (pks xs lo c) (slicePick its.toArray (some (lo : Int)) none (some (c : Int))).toList := by
    rw [hp]
    unfold pks
    rw [List.toList_toArray, ← many]
    exact vals_at rel _
  generalize slicePick its.toArray (some (lo : Int)) none (some (c : Int)) = arr at *
  refine ⟨.ref _, _, I5.laid (t' := s4.toks) (o := .lst (pks xs lo c)) (fun b ob z => Heap.get?_push_of_some _ z) (Nat.le_refl _) ?_, rfl, q _ (I5.hok.fresh (Nat.le_refl _))⟩
  exact ⟨Nat.le_trans (pks_len xs lo c hc) (size_le hsz), arr.toList, 0, hv, by rw [Heap.get?_push_size _ rfl]⟩
/-! ## range(lo, hi, c), c at least 1 -/
theorem RgC.up {i j c : Int} (hc : 1 ≤ c) (hc' : c < 1000000) (hi : 0 ≤ i) (hi' : i < 1000000) (hj : 0 ≤ j) (hj' : j < 1000000) : RgC i j c (if i < j then ((j - i - 1) / c + 1).toNat else 0) := by
  have hs : Builtin.Range.rangeSize i j c = ((if i < j then ((j - i - 1) / c + 1).toNat else 0 : Nat) : Int) := by
    unfold Builtin.Range.rangeSize
    rw [if_pos (show c > 0 by omega)]
    split
    · have := Int.ediv_nonneg (show 0 ≤ j - i - 1 by omega) (show 0 ≤ c by omega)
      omega
    · rfl
  have hb : Builtin.Range.rangeSize i j c ≤ 1000000 := by
    rw [hs]
    split
    · have h0 := Int.ediv_nonneg (show 0 ≤ j - i - 1 by omega) (show 0 ≤ c by omega)
      have h1 := Int.ediv_le_self c (show (0 : Int) ≤ j - i - 1 by omega)
      omega
    · decide
  have hb0 : 0 ≤ Builtin.Range.rangeSize i j c := by rw [hs]; omega
  refine ⟨by omega, by omega, ?_, hs⟩
  unfold Builtin.Range.small
  generalize Builtin.Range.rangeSize i j c = z at *
  simp only [Builtin.Range.rangeFitsLong, Bool.and_eq_true, Bool.or_eq_true, decide_eq_true_eq, beq_iff_eq, if_pos (show c > 0 by omega)]
  refine ⟨⟨⟨⟨?_, ?_⟩, ?_⟩, ?_⟩, .inr ?_⟩ <;> omega
theorem RgC.blocks {n q : Nat} (hn : 1 ≤ n) (hq : 1 ≤ q) (hb : n * q < 1000000) : RgC (n : Int) ((n * q : Nat) : Int) (n : Int) (q - 1) := by
  have h1 : n * 1 ≤ n * q := Nat.mul_le_mul_left _ hq
  have h := RgC.up (i := (n : Int)) (j := ((n * q : Nat) : Int)) (c := (n : Int)) (by omega) (by omega) (by omega) (by omega) (by omega) (by omega)
  have e : (if (n : Int) < ((n * q : Nat) : Int) then (((((n * q : Nat) : Int) - n - 1) / n + 1).toNat) else 0) = q - 1 := by
    by_cases h2 : q = 1
    · rw [h2, if_neg (by omega)]
    · have h3 : n * q = n * (q - 2) + n + n := by
        rw [show q = q - 2 + 1 + 1 by omega, Nat.mul_succ, Nat.mul_succ]
        rfl
      rw [if_pos (by omega)]
      have h4 : (((n * q : Nat) : Int) - n - 1) / n = ((q - 2 : Nat) : Int) := by
        rw [show ((n * q : Nat) : Int) - n - 1 = ((n : Int) - 1) + n * ((q - 2 : Nat) : Int) by rw [h3]; omega, Int.add_mul_ediv_left _ _ (by omega), Int.ediv_eq_zero_of_lt (by omega) (by omega), Int.zero_add]
      rw [h4]
      omega
  rw [e] at h
  exact h
/-! ## inner numbers -/
def blk (ws : List Int) (n c : Nat) : List Int := (ws.drop (c * n)).take (n - 1)
def repB (ws : List Int) (n : Nat) : Bool := (List.range ((ws.length + 1) / n)).all fun c => decide (blk ws n c = blk ws n 0)
def innB (ws : List Int) (n : Int) : Bool := decide (1 ≤ n) && decide (((ws.length : Int) + 1) % n = 0) && repB ws n.toNat
def innL (ws : List Int) : List Int := ((List.range (ws.length + 1)).map fun i => ((i : Nat) : Int) + 1).filter (innB ws)
theorem repB_of {ws : List Int} {n : Nat} (h : ∀ c, c < (ws.length + 1) / n → blk ws n c = blk ws n 0) : repB ws n = true := by
  unfold repB
  rw [List.all_eq_true]
  intro c hc
  exact decide_eq_true (h c (List.mem_range.mp hc))
theorem repB_not {ws : List Int} {n c : Nat} (hc : c < (ws.length + 1) / n) (h : blk ws n c ≠ blk ws n 0) : repB ws n = false := by
  unfold repB
  rw [List.all_eq_false]
  exact ⟨c, List.mem_range.mpr hc, by rw [decide_eq_false h]; decide⟩
theorem blk_map (ws : List Int) (n c : Nat) : ((ws.map V.int).drop (c * n)).take (n - 1) = (blk ws n c).map V.int := by
  unfold blk
  rw [List.map_take, List.map_drop]
/-- the definition by places -/
def Per (ws : List Int) (n : Nat) : Prop := 1 ≤ n ∧ n ∣ ws.length + 1 ∧ ∀ c r, r + 1 < n → c * n + r < ws.length → ws[c * n + r]? = ws[r]?
theorem blk_get {ws : List Int} {n c r : Nat} (h : r + 1 < n) : (blk ws n c)[r]? = ws[c * n + r]? := by
  unfold blk
  rw [List.getElem?_take_of_lt (by omega), List.getElem?_drop]
theorem per_iff {ws : List Int} {n : Nat} : innB ws (n : Int) = true ↔ Per ws n := by
  unfold innB Per
  rw [Bool.and_eq_true, Bool.and_eq_true, decide_eq_true_eq, decide_eq_true_eq, Int.toNat_natCast]
  have hd : ((ws.length : Int) + 1) % (n : Int) = 0 ↔ n ∣ ws.length + 1 := by
    rw [← Int.natCast_dvd_natCast, ← Int.dvd_iff_emod_eq_zero]
    rfl
  rw [hd]
  constructor
  · rintro ⟨⟨h1, h2⟩, h3⟩
    refine ⟨by omega, h2, fun c r hr hl => ?_⟩
    unfold repB at h3
    rw [List.all_eq_true] at h3
    have hc : c < (ws.length + 1) / n := by
      rw [Nat.lt_div_iff_mul_lt' h2]
      rw [Nat.mul_comm]
      omega
    have := of_decide_eq_true (h3 c (List.mem_range.mpr hc))
    rw [← blk_get hr, this, blk_get hr, Nat.zero_mul, Nat.zero_add]
  · rintro ⟨h1, h2, h3⟩
    refine ⟨⟨by omega, h2⟩, repB_of fun c hc => ?_⟩
    obtain ⟨q, hq⟩ := h2
    have hc' : c < q := by
      rw [hq, Nat.mul_div_cancel_left _ (by omega)] at hc
      exact hc
    have hb : c * n + n ≤ ws.length + 1 := by
      rw [hq, Nat.mul_comm n q, ← Nat.succ_mul]
      exact Nat.mul_le_mul_right _ hc'
    apply List.ext_getElem?
    intro r
    by_cases hr : r + 1 < n
    · rw [blk_get hr, blk_get hr, Nat.zero_mul, Nat.zero_add]
      exact h3 c r hr (by omega)
    · rw [List.getElem?_eq_none (by unfold blk; rw [List.length_take]; omega), List.getElem?_eq_none (by unfold blk; rw [List.length_take]; omega)]
/-! ## how many different ints -/
def fM (ns : List Int) : List Int := firstMet (fun i => ns.getD i 0) ns.length
theorem fM_len (ns : List Int) : (fM ns).length ≤ ns.length := firstMet_length_le _ _
theorem fM_same (f : Nat → Int) (w : Int) : ∀ n, (∀ i, i < n + 1 → f i = w) → firstMet f (n + 1) = [w]
  | 0, h => by
    rw [firstMet_succ, show f 0 = w from h 0 (by omega)]
    rfl
  | n + 1, h => by
    rw [firstMet_succ, fM_same f w n fun i hi => h i (by omega), h (n + 1) (by omega)]
    unfold step_dedup
    simp
theorem fM_one {ns : List Int} {w : Int} (h0 : ns ≠ []) (h : ∀ x ∈ ns, x = w) : fM ns = [w] := by
  unfold fM
  obtain ⟨n, hn⟩ : ∃ n, ns.length = n + 1 := ⟨ns.length - 1, by have := List.length_pos_iff.mpr h0; omega⟩
  rw [hn]
  refine fM_same _ w n fun i hi => ?_
  have hi' : i < ns.length := by omega
  rw [List.getD_eq_getElem?_getD, List.getElem?_eq_getElem hi']
  exact h _ (List.getElem_mem hi')
theorem fM_two {ns : List Int} {x y : Int} (hx : x ∈ ns) (hy : y ∈ ns) (h : x ≠ y) : 1 < (fM ns).length := by
  have mem : ∀ z, z ∈ ns → z ∈ fM ns := fun z hz => by
    have h1 : (fM ns).any (· == z) = true := by
      unfold fM
      rw [firstMet_any, List.any_eq_true]
      obtain ⟨i, hi, e⟩ := List.getElem_of_mem hz
      refine ⟨z, List.mem_map.mpr ⟨i, List.mem_range.mpr hi, ?_⟩, by simp⟩
      show ns.getD i 0 = z
      rw [List.getD_eq_getElem?_getD, List.getElem?_eq_getElem hi]
      exact e
    obtain ⟨u, hu, e⟩ := List.any_eq_true.mp h1
    rw [← eq_of_beq e]
    exact hu
  have m1 := mem x hx
  have m2 := mem y hy
  match e : fM ns with
  | [] => rw [e] at m1; cases m1
  | [u] =>
    rw [e] at m1 m2
    exact absurd ((List.mem_singleton.mp m1).trans (List.mem_singleton.mp m2).symm) h
  | u :: v :: r => simp only [List.length_cons]; omega
theorem units1 {n c : Nat} (h : n + 64 < c) : n + 1 < c := by omega
def tLenSetA (K : PySem.W.Frag) (ta : TE) : TE := fun σ H Q => ta σ H fun x H1 => ∃ (l : Addr) (ns : List Int), x = .ref l ∧ SqL K H1 l (ns.map V.int) ∧ ns.length ≤ 4000 ∧ Q (.int ((fM ns).length : Nat)) H1
theorem pe_lenSetA {X : Cx} {K : PySem.W.Frag} (hK : X.K = K) {a : Expr} {ta : TE} {p p2 q pos : Pos} (hg : Gl X "len") (hm : X.mg "len" = none) (hg2 : Gl X "set") (hm2 : X.mg "set" = none) (ha : PE X a ta) (hc : X.calm = true := by rfl)
    (na : starEach [a] X.env = (false, eval a X.env) :: starEach [] X.env := by rfl) : PE X (.Call (.Name "len" p) [.Call (.Name "set" p2) [a] [] q] [] pos) (tLenSetA K ta) := by
  subst hK
  constructor
  intro pins s σ H Q I h
  refine Call_ (ld_blt I hg hm boot_len (PyProof.Rows.callWith_builtin1 (PyProof.Rows.args_cons (Call_ (ld_blt I hg2 hm2 boot_set (PyProof.Rows.callWith_type1 (PyProof.Rows.args_cons (thn (ha.run pins s σ H _ I h) fun v s1 z => PyProof.Rows.args_nil ?_) na) na rfl))) rfl) rfl rfl))
  obtain ⟨x, H1, I1, r1, l, ns, rfl, hq, hl, q1⟩ := z
  cases r1
  obtain ⟨its, rel, pl, room⟩ := I1.list hq
  have many : its.toArray.size = ns.length := by rw [List.size_toArray, ← rel.length, List.length_map]
  refine call_set_list (I1.ok.hd hc) pl.isList (by rw [List.toList_toArray]; exact RZ.intsAre_vals rel) (by rw [many]; unfold scanBound; omega) fun h' tk hS hk => PyProof.Rows.args_nil ?_
  rw [many] at hS
  obtain ⟨o, es, ep, t, ho, hex, hd, _, _, _, hf, hn⟩ := hS
  have I2 : Inv X pins σ H1 { s1 with heap := h', toks := tk } := I1.kept fun b o e => hk b o (Heap.lt_size e) e
  have le := fM_len ns
  unfold fM at le
  exact call_len_set ho hex hd hf (by rw [hn]; omega) ⟨.int ((fM ns).length : Nat), H1, I2.tok _, ⟨_, by rw [hn]; rfl⟩, q1⟩
end Rn

set_option Elab.async false
set_option linter.all false
set_option maxRecDepth 100000
set_option maxHeartbeats 4000000
namespace Rn
open PySem PySem.Spec PyProof.Rows L2
/-! ## periods: by numbers of waits -/
/-- wait number j (from 1) -/
def wt (ws : List Int) (j : Nat) : Option Int := ws[j - 1]?
def PerC (ws : List Int) (n : Nat) : Prop := 1 ≤ n ∧ n ∣ ws.length + 1 ∧ ∀ i j, 1 ≤ i → i < ws.length + 1 → 1 ≤ j → j < ws.length + 1 → i % n = j % n → i % n ≠ 0 → wt ws i = wt ws j
theorem per_c {ws : List Int} {n : Nat} : Per ws n ↔ PerC ws n := by
  constructor
  · rintro ⟨h1, h2, h3⟩
    have key : ∀ i, 1 ≤ i → i < ws.length + 1 → i % n ≠ 0 → wt ws i = ws[i % n - 1]? := fun i i1 i2 i3 => by
      have e := Nat.div_add_mod i n
      have hm := Nat.mod_lt i (show n > 0 by omega)
      have := h3 (i / n) (i % n - 1) (by omega) (by rw [Nat.mul_comm]; omega)
      rw [← this]
      unfold wt
      congr 1
      rw [Nat.mul_comm]
      omega
    exact ⟨h1, h2, fun i j i1 i2 j1 j2 e z => by rw [key i i1 i2 z, key j j1 j2 (by rw [← e]; exact z), e]⟩
  · rintro ⟨h1, h2, h3⟩
    refine ⟨h1, h2, fun c r hr hl => ?_⟩
    have m1 : (c * n + r + 1) % n = r + 1 := by
      rw [Nat.add_assoc, Nat.mul_comm, Nat.mul_add_mod, Nat.mod_eq_of_lt (by omega)]
    have m2 : (r + 1) % n = r + 1 := Nat.mod_eq_of_lt hr
    have := h3 (c * n + r + 1) (r + 1) (by omega) (by omega) (by omega) (by
      have : r ≤ c * n + r := Nat.le_add_left _ _
      omega) (by rw [m1, m2]) (by rw [m1]; omega)
    exact this
/-- what stays under steps of a and of b stays under steps of their greatest common divisor -/
theorem gcd_step {α : Type} {g : Nat} {W : Nat → α} {C : Nat → Prop} (hC : ∀ x d, g ∣ d → C x → C (x + d)) (a b : Nat) : g ∣ a → g ∣ b → (∀ x, C x → W (x + a) = W x) → (∀ x, C x → W (x + b) = W x) → ∀ x, C x → W (x + Nat.gcd a b) = W x := by
  induction a, b using Nat.gcd.induction with
  | H0 b => intro _ _ _ hb x hx; rw [Nat.gcd_zero_left]; exact hb x hx
  | H1 a b ha ih =>
    intro ga gb h1 h2 x hx
    rw [Nat.gcd_rec]
    have gm : g ∣ b % a := (Nat.dvd_mod_iff ga).mpr gb
    have many : ∀ q y, C y → W (y + a * q) = W y := by
      intro q
      induction q with
      | zero => intro y _; rfl
      | succ q ih => intro y hy; rw [Nat.mul_succ, ← Nat.add_assoc, h1 _ (hC y _ (Nat.dvd_mul_right_of_dvd ga q) hy), ih y hy]
    refine ih gm ga (fun y hy => ?_) h1 x hx
    rw [← many (b / a) (y + b % a) (hC y _ gm hy), Nat.add_assoc, Nat.mod_add_div]
    exact h2 y hy
/-- .. and any number of steps -/
theorem steps {α : Type} {g : Nat} {W : Nat → α} {C : Nat → Prop} (hC : ∀ x d, g ∣ d → C x → C (x + d)) {d : Nat} (gd : g ∣ d) (h : ∀ x, C x → W (x + d) = W x) : ∀ k x, C x → W (x + d * k) = W x
  | 0, x, _ => rfl
  | k + 1, x, hx => by rw [Nat.mul_succ, ← Nat.add_assoc, h _ (hC x _ (Nat.dvd_mul_right_of_dvd gd k) hx), steps hC gd h k x hx]
theorem not_dvd_add {g : Nat} (x d : Nat) (h : g ∣ d) (hx : ¬ g ∣ x) : ¬ g ∣ x + d := fun z => hx ((Nat.dvd_add_iff_left h).mpr z)
/-- some number of steps of a leads from x to 1, by b -/
theorem lead {a b : Nat} (hb : 1 ≤ b) (h : Nat.gcd a b = 1) (x : Nat) : ∃ m, (x + m * a) % b = 1 % b := by
  let R : Nat → Prop := fun x => ∃ m, (x + m * a) % b = 1 % b
  have hA : ∀ x, True → R (x + a) = R x := fun x _ => propext ⟨fun ⟨m, e⟩ => ⟨m + 1, by rw [← e]; congr 1; rw [Nat.succ_mul]; omega⟩, fun ⟨m, e⟩ => ⟨m + (b - 1), by
    rw [← e]
    have : x + a + (m + (b - 1)) * a = x + m * a + b * a := by
      have e1 : b * a = (b - 1) * a + a := by rw [← Nat.succ_mul]; congr 1; omega
      rw [e1, Nat.add_mul]
      omega
    rw [this, Nat.add_mul_mod_self_left]⟩⟩
  have hB : ∀ x, True → R (x + b) = R x := fun x _ => propext ⟨fun ⟨m, e⟩ => ⟨m, by rw [← e, show x + b + m * a = x + m * a + b by omega, Nat.add_mod_right]⟩, fun ⟨m, e⟩ => ⟨m, by rw [← e, show x + b + m * a = x + m * a + b by omega, Nat.add_mod_right]⟩⟩
  have h1 := gcd_step (g := 1) (W := R) (C := fun _ => True) (fun _ _ _ _ => trivial) a b (Nat.one_dvd _) (Nat.one_dvd _) hA hB
  rw [h] at h1
  have h2 := steps (g := 1) (W := R) (C := fun _ => True) (fun _ _ _ _ => trivial) (Nat.one_dvd 1) h1
  have h3 : R 1 := ⟨0, by rw [Nat.zero_mul, Nat.add_zero]⟩
  have h4 : R 0 := by
    have := h1 0 trivial
    rw [← this]
    exact h3
  have := h2 x 0 trivial
  rw [Nat.zero_add, Nat.one_mul] at this
  show R x
  rw [this]
  exact h4
theorem wt_ring {ws : List Int} {n : Nat} (h : PerC ws n) : ∀ x, ¬ n ∣ x → wt ws ((x + n) % (ws.length + 1)) = wt ws (x % (ws.length + 1)) := fun x hx => by
  obtain ⟨h1, h2, h3⟩ := h
  have d1 : (x + n) % (ws.length + 1) % n = x % n := by rw [Nat.mod_mod_of_dvd _ h2, Nat.add_mod_right]
  have d2 : x % (ws.length + 1) % n = x % n := Nat.mod_mod_of_dvd _ h2
  have z : x % n ≠ 0 := fun e => hx (Nat.dvd_of_mod_eq_zero e)
  have nz : ∀ y, y % n ≠ 0 → 1 ≤ y := fun y e => by
    cases y with
    | zero => rw [Nat.zero_mod] at e; exact absurd rfl e
    | succ y => omega
  exact h3 _ _ (nz _ (by rw [d1]; exact z)) (Nat.mod_lt _ (by omega)) (nz _ (by rw [d2]; exact z)) (Nat.mod_lt _ (by omega)) (by rw [d1, d2]) (by rw [d1]; exact z)
theorem per_gcd {ws : List Int} {a b : Nat} (ha : PerC ws a) (hb : PerC ws b) : PerC ws (Nat.gcd a b) := by
  have g1 : 1 ≤ Nat.gcd a b := Nat.gcd_pos_of_pos_left _ ha.1
  have ga := Nat.gcd_dvd_left a b
  have gb := Nat.gcd_dvd_right a b
  have step := gcd_step (g := Nat.gcd a b) (W := fun x => wt ws (x % (ws.length + 1))) (C := fun x => ¬ Nat.gcd a b ∣ x) (fun x d hd hx => not_dvd_add x d hd hx) a b ga gb
    (fun x hx => wt_ring ha x fun z => hx (Nat.dvd_trans ga z)) (fun x hx => wt_ring hb x fun z => hx (Nat.dvd_trans gb z))
  generalize Nat.gcd a b = g at *
  have many := steps (g := g) (W := fun x => wt ws (x % (ws.length + 1))) (C := fun x => ¬ g ∣ x) (fun x d hd hx => not_dvd_add x d hd hx) (Nat.dvd_refl g) step
  have base : ∀ i, 1 ≤ i → i < ws.length + 1 → i % g ≠ 0 → wt ws i = wt ws ((i % g) % (ws.length + 1)) := fun i i1 i2 i3 => by
    have m0 := Nat.mod_lt i (show g > 0 by omega)
    have := many (i / g) (i % g) (fun z => i3 (by
      have := Nat.eq_zero_of_dvd_of_lt z m0
      exact this))
    rw [Nat.mod_add_div, Nat.mod_eq_of_lt i2] at this
    exact this
  exact ⟨g1, Nat.dvd_trans ga ha.2.1, fun i j i1 i2 j1 j2 e z => by rw [base i i1 i2 z, base j j1 j2 (by rw [← e]; exact z), e]⟩
theorem per_lcm {ws : List Int} {a b : Nat} (ha : PerC ws a) (hb : PerC ws b) : PerC ws (Nat.lcm a b) := by
  have la := Nat.dvd_lcm_left a b
  have lb := Nat.dvd_lcm_right a b
  refine ⟨Nat.lcm_pos ha.1 hb.1, Nat.lcm_dvd ha.2.1 hb.2.1, fun i j i1 i2 j1 j2 e z => ?_⟩
  have ea : i % a = j % a := by rw [← Nat.mod_mod_of_dvd i la, e, Nat.mod_mod_of_dvd j la]
  have eb : i % b = j % b := by rw [← Nat.mod_mod_of_dvd i lb, e, Nat.mod_mod_of_dvd j lb]
  by_cases za : i % a = 0
  · by_cases zb : i % b = 0
    · exact absurd (Nat.mod_eq_zero_of_dvd (Nat.lcm_dvd (Nat.dvd_of_mod_eq_zero za) (Nat.dvd_of_mod_eq_zero zb))) z
    · exact hb.2.2 i j i1 i2 j1 j2 eb zb
  · exact ha.2.2 i j i1 i2 j1 j2 ea za
/-- between the greatest common divisor and the least common multiple all waits are equal -/
theorem per_between {ws : List Int} {g p q : Nat} (hp : PerC ws (g * p)) (hq : PerC ws (g * q)) (hc : Nat.gcd p q = 1) (hp1 : p ≠ 1) (hq1 : q ≠ 1) :
    ∀ k, 1 ≤ k → k < p * q → wt ws (g * k) = wt ws g := by
  have g0 : 1 ≤ g := by
    cases g with
    | zero => have := hp.1; rw [Nat.zero_mul] at this; omega
    | succ g => omega
  have p0 : 2 ≤ p := by
    have : p ≠ 0 := fun z => by have := hp.1; rw [z, Nat.mul_zero] at this; omega
    omega
  have q0 : 2 ≤ q := by
    have : q ≠ 0 := fun z => by have := hq.1; rw [z, Nat.mul_zero] at this; omega
    omega
  have bound : g * (p * q) ≤ ws.length + 1 := by
    have h1 : Nat.lcm (g * p) (g * q) ∣ ws.length + 1 := Nat.lcm_dvd hp.2.1 hq.2.1
    have h2 : Nat.lcm (g * p) (g * q) = g * (p * q) := by
      rw [Nat.lcm_mul_left]
      congr 1
      unfold Nat.lcm
      rw [hc, Nat.div_one]
    rw [h2] at h1
    exact Nat.le_of_dvd (by omega) h1
  -- steps through one of them
  have via : ∀ (a b : Nat), 2 ≤ a → 2 ≤ b → Nat.gcd a b = 1 → PerC ws (g * a) → PerC ws (g * b) → ∀ k, 1 ≤ k → g * k < ws.length + 1 → ¬ a ∣ k → wt ws (g * k) = wt ws g := fun a b a2 b2 hab ha hb k k1 k2 hk => by
    obtain ⟨m, hm⟩ := lead (a := a) (b := b) (by omega) hab k
    have hm1 : (k + m * a) % b = 1 := by rw [hm, Nat.mod_eq_of_lt (by omega)]
    have nd : ¬ g * a ∣ g * k := fun z => hk (Nat.dvd_of_mul_dvd_mul_left (by omega) z)
    have s1 := steps (g := g * a) (W := fun x => wt ws (x % (ws.length + 1))) (C := fun x => ¬ g * a ∣ x) (fun x d hd hx => not_dvd_add x d hd hx) (Nat.dvd_refl _) (wt_ring ha) m (g * k) nd
    have s1' : wt ws ((g * k + g * a * m) % (ws.length + 1)) = wt ws (g * k % (ws.length + 1)) := s1
    rw [Nat.mod_eq_of_lt k2] at s1'
    rw [← s1']
    have e : g * k + g * a * m = g + g * b * ((k + m * a) / b) := by
      have h := Nat.div_add_mod (k + m * a) b
      rw [hm1] at h
      generalize (k + m * a) / b = t at *
      have h2 : g * (k + m * a) = g * (b * t + 1) := by rw [h]
      rw [Nat.mul_add, Nat.mul_add, Nat.mul_one] at h2
      rw [show g * a * m = g * (m * a) by rw [Nat.mul_assoc, Nat.mul_comm a m], Nat.mul_assoc g b t]
      omega
    rw [e]
    have nd1 : ¬ g * b ∣ g := fun z => by
      have := Nat.le_of_dvd (by omega) z
      have h3 : g * 2 ≤ g * b := Nat.mul_le_mul_left _ b2
      omega
    have s2 := steps (g := g * b) (W := fun x => wt ws (x % (ws.length + 1))) (C := fun x => ¬ g * b ∣ x) (fun x d hd hx => not_dvd_add x d hd hx) (Nat.dvd_refl _) (wt_ring hb) ((k + m * a) / b) g nd1
    have s2' : wt ws ((g + g * b * ((k + m * a) / b)) % (ws.length + 1)) = wt ws (g % (ws.length + 1)) := s2
    rw [s2']
    have hg : g < ws.length + 1 := by
      have : g * 1 ≤ g * k := Nat.mul_le_mul_left _ k1
      omega
    rw [Nat.mod_eq_of_lt hg]
  intro k k1 k2
  have k3 : g * k < ws.length + 1 := Nat.lt_of_lt_of_le (Nat.mul_lt_mul_of_pos_left k2 (by omega)) bound
  by_cases z : p ∣ k
  · have z2 : ¬ q ∣ k := fun z2 => by
      have : Nat.lcm p q ∣ k := Nat.lcm_dvd z z2
      unfold Nat.lcm at this
      rw [hc, Nat.div_one] at this
      have := Nat.le_of_dvd (by omega) this
      omega
    exact via q p q0 p0 (by rw [Nat.gcd_comm]; exact hc) hq hp k k1 k3 z2
  · exact via p q p0 q0 hc hp hq k k1 k3 z
/-! ## the list of inner numbers -/
theorem mem_innL {ws : List Int} {x : Int} : x ∈ innL ws ↔ ∃ n : Nat, x = (n : Int) ∧ PerC ws n := by
  unfold innL
  rw [List.mem_filter, List.mem_map]
  constructor
  · rintro ⟨⟨i, hi, rfl⟩, h⟩
    exact ⟨i + 1, rfl, per_c.mp (per_iff.mp h)⟩
  · rintro ⟨n, rfl, h⟩
    have h1 := h.1
    have h2 := Nat.le_of_dvd (by omega) h.2.1
    exact ⟨⟨n - 1, List.mem_range.mpr (by omega), by omega⟩, per_iff.mpr (per_c.mpr h)⟩
theorem innL_sorted (ws : List Int) : (innL ws).Pairwise (· < ·) := by
  unfold innL
  refine List.Pairwise.filter _ ?_
  rw [List.pairwise_map]
  exact List.pairwise_lt_range.imp fun h => by omega
theorem innL_len (ws : List Int) : (innL ws).length ≤ ws.length + 1 := by
  unfold innL
  refine Nat.le_trans (List.length_filter_le _ _) ?_
  rw [List.length_map, List.length_range]
  exact Nat.le_refl _
theorem sorted_ext : ∀ {xs ys : List Int}, xs.Pairwise (· < ·) → ys.Pairwise (· < ·) → (∀ x, x ∈ xs ↔ x ∈ ys) → xs = ys
  | [], [], _, _, _ => rfl
  | [], y :: ys, _, _, h => absurd ((h y).mpr List.mem_cons_self) (List.not_mem_nil)
  | x :: xs, [], _, _, h => absurd ((h x).mp List.mem_cons_self) (List.not_mem_nil)
  | x :: xs, y :: ys, hx, hy, h => by
    obtain ⟨x1, x2⟩ := List.pairwise_cons.mp hx
    obtain ⟨y1, y2⟩ := List.pairwise_cons.mp hy
    have e : x = y := by
      rcases List.mem_cons.mp ((h x).mp List.mem_cons_self) with z | z
      · exact z
      · rcases List.mem_cons.mp ((h y).mpr List.mem_cons_self) with u | u
        · exact u.symm
        · have := y1 x z
          have := x1 y u
          omega
    subst e
    rw [sorted_ext x2 y2 fun z => ⟨fun m => ?_, fun m => ?_⟩]
    · rcases List.mem_cons.mp ((h z).mp (List.mem_cons_of_mem _ m)) with u | u
      · have := x1 z m
        omega
      · exact u
    · rcases List.mem_cons.mp ((h z).mpr (List.mem_cons_of_mem _ m)) with u | u
      · have := y1 z m
        omega
      · exact u
/-! ## the two parts of a split -/
theorem low_len {ws : List Int} {n : Nat} (h : PerC ws n) : (blk ws n 0).length = n - 1 := by
  have h1 := Nat.le_of_dvd (by omega) h.2.1
  unfold blk
  rw [Nat.zero_mul, List.drop_zero, List.length_take]
  omega
theorem low_wt {ws : List Int} {n j : Nat} (h1 : 1 ≤ j) (h2 : j < n) : wt (blk ws n 0) j = wt ws j := by
  unfold wt
  rw [blk_get (by omega), Nat.zero_mul, Nat.zero_add]
theorem at_all (ws : List Int) : ∀ is : List Nat, (∀ i ∈ is, i < ws.length) → is.filterMap (fun i => ws[i]?) = is.map fun i => ws.getD i 0
  | [], _ => rfl
  | i :: is, h => by
    have hi := h i List.mem_cons_self
    rw [List.filterMap_cons_some (List.getElem?_eq_getElem hi), List.map_cons, at_all ws is fun j hj => h j (List.mem_cons_of_mem _ hj), List.getD_eq_getElem?_getD, List.getElem?_eq_getElem hi]
    rfl
theorem high_is {ws : List Int} {n q : Nat} (hn : 1 ≤ n) (hq : 1 ≤ q) (h : ws.length + 1 = n * q) : pks ws (n - 1) n = (List.range (q - 1)).map fun k => ws.getD (n - 1 + n * k) 0 := by
  have b1 : n * 1 ≤ n * q := Nat.mul_le_mul_left _ hq
  have e : (ws.length - (n - 1) + n - 1) / n = q - 1 := by
    have h2 : n * q = n * (q - 1) + n := by
      rw [← Nat.mul_succ]
      congr 1
      omega
    rw [show ws.length - (n - 1) + n - 1 = n - 1 + n * (q - 1) by omega, Nat.add_mul_div_left _ _ (by omega), Nat.div_eq_of_lt (by omega), Nat.zero_add]
  unfold pks
  rw [e, at_all ws _ fun i hi => ?_, List.map_map]
  · rfl
  · obtain ⟨k, hk, rfl⟩ := List.mem_map.mp hi
    have hk' := List.mem_range.mp hk
    have h3 : n * (k + 2) ≤ n * q := Nat.mul_le_mul_left _ (by omega)
    rw [Nat.mul_add] at h3
    omega
theorem high_len {ws : List Int} {n q : Nat} (hn : 1 ≤ n) (hq : 1 ≤ q) (h : ws.length + 1 = n * q) : (pks ws (n - 1) n).length = q - 1 := by
  rw [high_is hn hq h, List.length_map, List.length_range]
theorem high_wt {ws : List Int} {n q j : Nat} (hn : 1 ≤ n) (hq : 1 ≤ q) (h : ws.length + 1 = n * q) (h1 : 1 ≤ j) (h2 : j < q) : wt (pks ws (n - 1) n) j = wt ws (n * j) := by
  have h3 : n * (j + 1) ≤ n * q := Nat.mul_le_mul_left _ (by omega)
  have h4 : n * j = n * (j - 1) + n := by
    rw [← Nat.mul_succ]
    congr 1
    omega
  rw [Nat.mul_add] at h3
  unfold wt
  rw [high_is hn hq h, List.getElem?_map, List.getElem?_range (by omega), show n * j - 1 = n - 1 + n * (j - 1) by omega]
  show some (ws.getD (n - 1 + n * (j - 1)) 0) = _
  rw [List.getD_eq_getElem?_getD, List.getElem?_eq_getElem (by omega)]
  rfl
theorem per_low {ws : List Int} {n m : Nat} (h : PerC ws n) : PerC (blk ws n 0) m ↔ PerC ws m ∧ m ∣ n := by
  have hl := low_len h
  have h1 := h.1
  have hN := Nat.le_of_dvd (by omega) h.2.1
  have e1 : (blk ws n 0).length + 1 = n := by omega
  constructor
  · rintro ⟨m1, m2, m3⟩
    rw [e1] at m2 m3
    refine ⟨⟨m1, Nat.dvd_trans m2 h.2.1, fun i j i1 i2 j1 j2 e z => ?_⟩, m2⟩
    have red : ∀ i, 1 ≤ i → i < ws.length + 1 → i % m ≠ 0 → 1 ≤ i % n ∧ i % n < n ∧ wt ws i = wt (blk ws n 0) (i % n) ∧ i % n % m = i % m := fun i i1 i2 z => by
      have q1 : i % n % m = i % m := Nat.mod_mod_of_dvd _ m2
      have q2 := Nat.mod_lt i (show n > 0 by omega)
      have q3 : i % n ≠ 0 := fun y => by rw [y, Nat.zero_mod] at q1; exact z q1.symm
      refine ⟨by omega, q2, ?_, q1⟩
      rw [low_wt (by omega) q2]
      exact h.2.2 i (i % n) i1 i2 (by omega) (by omega) (Nat.mod_mod _ _).symm q3
    obtain ⟨a1, a2, a3, a4⟩ := red i i1 i2 z
    obtain ⟨b1, b2, b3, b4⟩ := red j j1 j2 (by rw [← e]; exact z)
    rw [a3, b3]
    exact m3 _ _ a1 a2 b1 b2 (by rw [a4, b4, e]) (by rw [a4]; exact z)
  · rintro ⟨⟨m1, m2, m3⟩, m4⟩
    refine ⟨m1, by rw [e1]; exact m4, ?_⟩
    rw [e1]
    intro i j i1 i2 j1 j2 e z
    rw [low_wt i1 i2, low_wt j1 j2]
    exact m3 i j i1 (by omega) j1 (by omega) e z
theorem per_high {ws : List Int} {n m : Nat} (h : PerC ws n) (hm : 1 ≤ m) : PerC (pks ws (n - 1) n) m ↔ PerC ws (n * m) := by
  have h1 := h.1
  obtain ⟨q, hq⟩ := h.2.1
  have q1 : 1 ≤ q := by
    cases q with
    | zero => rw [Nat.mul_zero] at hq; omega
    | succ q => omega
  have e1 : (pks ws (n - 1) n).length + 1 = q := by rw [high_len h1 q1 hq]; omega
  have lt : ∀ j, j < q → n * j < ws.length + 1 := fun j hj => by rw [hq]; exact Nat.mul_lt_mul_of_pos_left hj (by omega)
  have pos : ∀ j, 1 ≤ j → 1 ≤ n * j := fun j hj => Nat.mul_pos (by omega) (by omega)
  constructor
  · rintro ⟨m1, m2, m3⟩
    rw [e1] at m2 m3
    refine ⟨pos m m1, by rw [hq]; exact Nat.mul_dvd_mul_left n m2, fun i j i1 i2 j1 j2 e z => ?_⟩
    have en : i % n = j % n := by rw [← Nat.mod_mod_of_dvd i (Nat.dvd_mul_right n m), e, Nat.mod_mod_of_dvd j (Nat.dvd_mul_right n m)]
    by_cases zn : i % n = 0
    · obtain ⟨i', rfl⟩ := Nat.dvd_of_mod_eq_zero zn
      obtain ⟨j', rfl⟩ := Nat.dvd_of_mod_eq_zero (show j % n = 0 by rw [← en]; exact zn)
      have i1' : 1 ≤ i' := by
        cases i' with
        | zero => rw [Nat.mul_zero] at i1; omega
        | succ i => omega
      have j1' : 1 ≤ j' := by
        cases j' with
        | zero => rw [Nat.mul_zero] at j1; omega
        | succ i => omega
      rw [hq] at i2 j2
      have i2' := Nat.lt_of_mul_lt_mul_left i2
      have j2' := Nat.lt_of_mul_lt_mul_left j2
      rw [Nat.mul_mod_mul_left, Nat.mul_mod_mul_left] at e
      rw [Nat.mul_mod_mul_left] at z
      rw [← high_wt h1 q1 hq i1' i2', ← high_wt h1 q1 hq j1' j2']
      exact m3 i' j' i1' i2' j1' j2' (Nat.eq_of_mul_eq_mul_left (by omega) e) (fun y => z (by rw [y, Nat.mul_zero]))
    · exact h.2.2 i j i1 i2 j1 j2 en zn
  · rintro ⟨m1, m2, m3⟩
    refine ⟨hm, ?_, ?_⟩
    · rw [e1]
      rw [hq] at m2
      exact Nat.dvd_of_mul_dvd_mul_left (by omega) m2
    · rw [e1]
      intro i j i1 i2 j1 j2 e z
      rw [high_wt h1 q1 hq i1 i2, high_wt h1 q1 hq j1 j2]
      refine m3 _ _ (pos i i1) (lt i i2) (pos j j1) (lt j j2) ?_ ?_
      · rw [Nat.mul_mod_mul_left, Nat.mul_mod_mul_left, e]
      · rw [Nat.mul_mod_mul_left]
        intro y
        rcases Nat.mul_eq_zero.mp y with y | y
        · omega
        · exact z y
/-! ## ints in lists -/
theorem flat_ints (ns : List Int) : (ns.map V.int).all flatV = true := by
  rw [List.all_eq_true]
  intro v hv
  obtain ⟨n, _, rfl⟩ := List.mem_map.mp hv
  rfl
theorem inV_ints (x : Int) (ns : List Int) : inV (.int x) (ns.map V.int) = decide (x ∈ ns) := by
  unfold inV
  rw [List.any_map, Bool.eq_iff_iff, List.any_eq_true, decide_eq_true_eq]
  constructor
  · rintro ⟨n, hn, e⟩
    have e' : (n == x) = true := e
    rw [← eq_of_beq e']
    exact hn
  · intro h
    exact ⟨x, h, by show (x == x) = true; exact BEq.rfl⟩
theorem pair_parts {a b : Nat} (ha : 1 ≤ a) : ∃ p q, a = Nat.gcd a b * p ∧ b = Nat.gcd a b * q ∧ Nat.gcd p q = 1 ∧ Nat.lcm a b = Nat.gcd a b * (p * q) := by
  have g0 : 0 < Nat.gcd a b := Nat.gcd_pos_of_pos_left _ ha
  obtain ⟨p, hp⟩ := Nat.gcd_dvd_left a b
  obtain ⟨q, hq⟩ := Nat.gcd_dvd_right a b
  have hg : Nat.gcd a b * Nat.gcd p q = Nat.gcd a b * 1 := by
    rw [← Nat.gcd_mul_left, ← hp, ← hq, Nat.mul_one]
  have h1 := Nat.eq_of_mul_eq_mul_left g0 hg
  refine ⟨p, q, hp, hq, h1, ?_⟩
  have : Nat.lcm (Nat.gcd a b * p) (Nat.gcd a b * q) = Nat.gcd a b * (p * q) := by
    rw [Nat.lcm_mul_left]
    congr 1
    unfold Nat.lcm
    rw [h1, Nat.div_one]
  rw [← hp, ← hq] at this
  exact this
end Rn

set_option Elab.async false
set_option linter.all false
set_option maxRecDepth 100000
set_option maxHeartbeats 4000000
namespace Rn
open PySem PySem.Spec PyProof.Rows L2
/-! ## the classes of waits by the remainders of their numbers, kept in a dict of lists -/
def cls (ws : List Int) (n r i : Nat) : List Int := ((List.range i).filter fun j => decide ((j + 1) % n = r)).map fun j => ws.getD j 0
theorem cls_succ (ws : List Int) (n r i : Nat) : cls ws n r (i + 1) = if (i + 1) % n = r then cls ws n r i ++ [ws.getD i 0] else cls ws n r i := by
  unfold cls
  rw [List.range_succ, List.filter_append, List.map_append, List.filter_cons, List.filter_nil]
  by_cases h : (i + 1) % n = r
  · rw [if_pos h, if_pos (decide_eq_true h)]
    rfl
  · rw [if_neg h, if_neg (by rw [decide_eq_false h]; exact Bool.false_ne_true), List.map_nil, List.append_nil]
theorem cls_len (ws : List Int) (n r i : Nat) : (cls ws n r i).length ≤ i := by
  unfold cls
  rw [List.length_map]
  refine Nat.le_trans (List.length_filter_le _ _) ?_
  rw [List.length_range]
  exact Nat.le_refl _
theorem mem_cls {ws : List Int} {n r i : Nat} {x : Int} (h : x ∈ cls ws n r i) : ∃ j, j < i ∧ (j + 1) % n = r ∧ ws.getD j 0 = x := by
  unfold cls at h
  obtain ⟨j, hj, e⟩ := List.mem_map.mp h
  obtain ⟨h1, h2⟩ := List.mem_filter.mp hj
  exact ⟨j, List.mem_range.mp h1, of_decide_eq_true h2, e⟩
theorem in_cls {ws : List Int} {n r i j : Nat} (h1 : j < i) (h2 : (j + 1) % n = r) : ws.getD j 0 ∈ cls ws n r i := by
  unfold cls
  exact List.mem_map.mpr ⟨j, List.mem_filter.mpr ⟨List.mem_range.mpr h1, decide_eq_true h2⟩, rfl⟩
theorem getD_wt {ws : List Int} {j : Nat} (h : j < ws.length) : wt ws (j + 1) = some (ws.getD j 0) := by
  unfold wt
  rw [Nat.add_sub_cancel, List.getD_eq_getElem?_getD, List.getElem?_eq_getElem h]
  rfl
theorem per_cls {ws : List Int} {n : Nat} (h1 : 1 ≤ n) (h2 : n ∣ ws.length + 1) : PerC ws n ↔ ∀ r : Nat, r ≠ 0 → (fM (cls ws n r ws.length)).length ≤ 1 := by
  constructor
  · rintro ⟨_, _, h3⟩ r hr
    cases e : cls ws n r ws.length with
    | nil => exact Nat.zero_le _
    | cons x0 rest =>
      have m0 : x0 ∈ cls ws n r ws.length := by rw [e]; exact List.mem_cons_self
      obtain ⟨j0, a1, a2, a3⟩ := mem_cls m0
      rw [← e, fM_one (w := x0) (by rw [e]; intro z; cases z) fun x hx => ?_]
      · exact Nat.le_refl _
      obtain ⟨j, b1, b2, b3⟩ := mem_cls hx
      have := h3 (j + 1) (j0 + 1) (by omega) (by omega) (by omega) (by omega) (by rw [a2, b2]) (by rw [b2]; exact hr)
      rw [getD_wt b1, getD_wt a1, a3, b3] at this
      exact Option.some.inj this
  · intro h
    refine ⟨h1, h2, fun i j i1 i2 j1 j2 e z => ?_⟩
    obtain ⟨i', rfl⟩ : ∃ i', i = i' + 1 := ⟨i - 1, by omega⟩
    obtain ⟨j', rfl⟩ : ∃ j', j = j' + 1 := ⟨j - 1, by omega⟩
    rw [getD_wt (by omega), getD_wt (by omega)]
    by_cases q : ws.getD i' 0 = ws.getD j' 0
    · rw [q]
    · have m1 := in_cls (ws := ws) (n := n) (r := (i' + 1) % n) (i := ws.length) (j := i') (by omega) rfl
      have m2 := in_cls (ws := ws) (n := n) (r := (i' + 1) % n) (i := ws.length) (j := j') (by omega) e.symm
      have := fM_two m1 m2 q
      have := h _ z
      omega
theorem mem_putK {kvs : List (Key × V)} {k k' : Key} {v v' : V} (h : (k', v') ∈ putK kvs k v) : (k' = k ∧ v' = v) ∨ ((k', v') ∈ kvs ∧ k' ≠ k) := by
  unfold putK at h
  by_cases e : (kvs.any fun kv => decide (kv.1 = k)) = true
  · rw [if_pos e] at h
    obtain ⟨kv, h1, h2⟩ := List.mem_map.mp h
    by_cases z : kv.1 = k
    · rw [if_pos z] at h2
      cases h2
      exact .inl ⟨z, rfl⟩
    · rw [if_neg z] at h2
      subst h2
      exact .inr ⟨h1, z⟩
  · rw [if_neg e] at h
    rcases List.mem_append.mp h with h1 | h1
    · refine .inr ⟨h1, fun z => e ?_⟩
      rw [List.any_eq_true]
      exact ⟨_, h1, decide_eq_true z⟩
    · have := List.mem_singleton.mp h1
      cases this
      exact .inl ⟨rfl, rfl⟩
theorem valV_mem {kvs : List (Key × V)} {k : Key} {v : V} (h : valV kvs k = some v) : (k, v) ∈ kvs := by
  unfold valV at h
  obtain ⟨kv, h1, h2⟩ := Option.map_eq_some_iff.mp h
  have h3 := List.find?_some h1
  have h4 := List.mem_of_find?_eq_some h1
  have h5 : kv.1 = k := of_decide_eq_true h3
  have : kv = (k, v) := by
    cases kv
    cases h5
    cases h2
    rfl
  rw [← this]
  exact h4
/-- the dict at d holds the classes of the first i waits, in lists of their own -/
structure Cls (ws : List Int) (n i : Nat) (H : Hp) (d : Addr) (kvs : List (Key × V)) : Prop where
  at_ : H d = some (.dK kvs)
  len : kvs.length ≤ i
  each : ∀ k v, (k, v) ∈ kvs → ∃ (r : Nat) (p : Addr), k = Sum.inl (r : Int) ∧ r ≠ 0 ∧ v = .ref p ∧ p ≠ d ∧ H p = some (.lst ((cls ws n r i).map V.int))
  full : ∀ r : Nat, r ≠ 0 → cls ws n r i ≠ [] → ∃ v, valV kvs (Sum.inl (r : Int)) = some v
theorem Cls.same {ws : List Int} {n i : Nat} {H H' : Hp} {d : Addr} {kvs : List (Key × V)} (h : Cls ws n i H d kvs) (e : Same H H') : Cls ws n i H' d kvs :=
  ⟨e _ _ h.at_, h.len, fun k v m => by obtain ⟨r, p, a1, a2, a3, a4, a5⟩ := h.each k v m; exact ⟨r, p, a1, a2, a3, a4, e _ _ a5⟩, h.full⟩
theorem Cls.skip {ws : List Int} {n i : Nat} {H : Hp} {d : Addr} {kvs : List (Key × V)} (h : Cls ws n i H d kvs) (z : (i + 1) % n = 0) : Cls ws n (i + 1) H d kvs := by
  have e : ∀ r, r ≠ 0 → cls ws n r (i + 1) = cls ws n r i := fun r hr => by rw [cls_succ, if_neg (by omega)]
  refine ⟨h.at_, Nat.le_succ_of_le h.len, fun k v m => ?_, fun r hr hc => h.full r hr (by rw [← e r hr]; exact hc)⟩
  obtain ⟨r, p, a1, a2, a3, a4, a5⟩ := h.each k v m
  exact ⟨r, p, a1, a2, a3, a4, by rw [e r a2]; exact a5⟩
theorem Cls.put {ws : List Int} {n i r : Nat} {H : Hp} {d q : Addr} {kvs : List (Key × V)} (h : Cls ws n i H d kvs) (hr : (i + 1) % n = r) (hr0 : r ≠ 0) (hq : H q = some (.lst ((cls ws n r (i + 1)).map V.int))) (ne : q ≠ d) :
    Cls ws n (i + 1) (upd H d (.dK (putK kvs (Sum.inl (r : Int)) (.ref q)))) d (putK kvs (Sum.inl (r : Int)) (.ref q)) := by
  have e : ∀ s, s ≠ r → cls ws n s (i + 1) = cls ws n s i := fun s hs => by rw [cls_succ, if_neg (by omega)]
  refine ⟨upd_same, Nat.le_trans (length_putK _ _ _) (Nat.succ_le_succ h.len), fun k v m => ?_, fun s hs hc => ?_⟩
  · rcases mem_putK m with ⟨rfl, rfl⟩ | ⟨m1, m2⟩
    · exact ⟨r, q, rfl, hr0, rfl, ne, by rw [upd_ne ne]; exact hq⟩
    · obtain ⟨s, p, a1, a2, a3, a4, a5⟩ := h.each k v m1
      have : s ≠ r := fun z => m2 (by rw [a1, z])
      exact ⟨s, p, a1, a2, a3, a4, by rw [upd_ne a4, e s this]; exact a5⟩
  · rw [valV_put]
    by_cases z : s = r
    · exact ⟨_, by rw [z, if_pos rfl]⟩
    · rw [if_neg (fun y => z (by injection y with y; exact Int.ofNat.inj y))]
      exact h.full s hs (by rw [← e s z]; exact hc)
/-- what stands at a remainder: its class, or nothing where the class is empty -/
theorem Cls.get {ws : List Int} {n i : Nat} {H : Hp} {d : Addr} {kvs : List (Key × V)} (h : Cls ws n i H d kvs) {r : Nat} (hr : r ≠ 0) : (valV kvs (Sum.inl (r : Int)) = none ∧ cls ws n r i = []) ∨
    ∃ p, valV kvs (Sum.inl (r : Int)) = some (.ref p) ∧ p ≠ d ∧ H p = some (.lst ((cls ws n r i).map V.int)) := by
  cases e : valV kvs (Sum.inl (r : Int)) with
  | none =>
    refine .inl ⟨rfl, ?_⟩
    by_cases z : cls ws n r i = []
    · exact z
    · obtain ⟨v, hv⟩ := h.full r hr z
      rw [e] at hv
      cases hv
  | some v =>
    obtain ⟨s, p, a1, a2, a3, a4, a5⟩ := h.each _ _ (valV_mem e)
    have : s = r := by injection a1 with a1; exact (Int.ofNat.inj a1).symm
    subst this
    exact .inr ⟨p, by rw [a3], a4, a5⟩
end Rn

set_option Elab.async false
set_option linter.all false
set_option maxRecDepth 100000
set_option maxHeartbeats 4000000
namespace Rn
open PySem PySem.Spec PyProof.Rows L2
/-! ## unsplittable policies -/
theorem per_one (ws : List Int) : Per ws 1 := ⟨Nat.le_refl _, Nat.one_dvd _, fun c r h _ => absurd h (by omega)⟩
theorem per_all (ws : List Int) : Per ws (ws.length + 1) := ⟨by omega, Nat.dvd_refl _, fun c r h1 h2 => by
  have : c = 0 := by
    rcases Nat.eq_zero_or_pos c with z | z
    · exact z
    · have : 1 * (ws.length + 1) ≤ c * (ws.length + 1) := Nat.mul_le_mul_right _ z
      omega
  rw [this, Nat.zero_mul, Nat.zero_add]⟩
theorem per_const {m n : Nat} {w : Int} : Per (List.replicate m w) n ↔ 1 ≤ n ∧ n ∣ m + 1 := by
  constructor
  · rintro ⟨h1, h2, _⟩
    rw [List.length_replicate] at h2
    exact ⟨h1, h2⟩
  · rintro ⟨h1, h2⟩
    refine ⟨h1, by rw [List.length_replicate]; exact h2, fun c r h3 h4 => ?_⟩
    rw [List.length_replicate] at h4
    rw [List.getElem?_replicate, List.getElem?_replicate, if_pos h4, if_pos (by
      have : r ≤ c * n + r := Nat.le_add_left _ _
      omega)]
theorem per_nest (xs ys : List Int) : Per (nestL xs ys) (xs.length + 1) := by
  have hl := nestL_len xs ys
  refine ⟨by omega, ⟨ys.length + 1, hl⟩, fun c r h1 h2 => ?_⟩
  have h3 : r ≤ c * (xs.length + 1) + r := Nat.le_add_left _ _
  rw [nestL_get _ _ _ h2, nestL_get _ _ r (by omega)]
  have m1 : (c * (xs.length + 1) + r + 1) % (xs.length + 1) = r + 1 := by
    rw [Nat.add_assoc, Nat.mul_comm, Nat.mul_add_mod, Nat.mod_eq_of_lt (by omega)]
  have m2 : (r + 1) % (xs.length + 1) = r + 1 := Nat.mod_eq_of_lt (by omega)
  rw [m1, m2, if_neg (by omega), if_neg (by omega)]
theorem inn_false {ws : List Int} {j : Nat} (h : ¬ Per ws j) : innB ws (j : Int) = false := by
  cases e : innB ws (j : Int) with
  | false => rfl
  | true => exact absurd (per_iff.mp e) h
/-- not trivial and nothing between 1 and all is an inner number -/
def Uns (ws : List Int) : Prop := 0 < ws.length ∧ ∀ j : Nat, 2 ≤ j → j < ws.length + 1 → innB ws (j : Int) = false
def unsB (ws : List Int) : Bool := decide (0 < ws.length) && (List.range (ws.length + 1)).all fun j => !(decide (2 ≤ j) && innB ws ((j : Nat) : Int))
theorem uns_iff {ws : List Int} : unsB ws = true ↔ Uns ws := by
  unfold unsB Uns
  rw [Bool.and_eq_true, decide_eq_true_eq, List.all_eq_true]
  constructor
  · rintro ⟨h1, h2⟩
    refine ⟨h1, fun j j1 j2 => ?_⟩
    have := h2 j (List.mem_range.mpr j2)
    rw [decide_eq_true j1, Bool.true_and] at this
    simpa using this
  · rintro ⟨h1, h2⟩
    refine ⟨h1, fun j hj => ?_⟩
    by_cases c : 2 ≤ j
    · rw [h2 j c (List.mem_range.mp hj), Bool.and_false]
      rfl
    · rw [decide_eq_false c, Bool.false_and]
      rfl
/-- the smallest inner number above 1 -/
def Sm (ws : List Int) (m : Nat) : Prop := (m = ws.length + 1 ∨ (2 ≤ m ∧ m < ws.length + 1 ∧ innB ws (m : Int) = true)) ∧ ∀ j : Nat, 2 ≤ j → j < m → innB ws (j : Int) = false
theorem sm_uns {ws : List Int} {m : Nat} (h : Sm ws m) (h0 : 0 < ws.length) : m = ws.length + 1 ↔ Uns ws := by
  constructor
  · intro e
    exact ⟨h0, fun j j1 j2 => h.2 j j1 (by omega)⟩
  · intro u
    rcases h.1 with e | ⟨h1, h2, h3⟩
    · exact e
    · rw [u.2 m h1 h2] at h3
      cases h3
theorem innL_two {ws : List Int} (h0 : 0 < ws.length) : innL ws = [1, (ws.length : Int) + 1] ↔ Uns ws := by
  constructor
  · intro e
    refine ⟨h0, fun j j1 j2 => inn_false fun hp => ?_⟩
    have hm : (j : Int) ∈ innL ws := mem_innL.mpr ⟨j, rfl, per_c.mp hp⟩
    rw [e] at hm
    simp only [List.mem_cons, List.not_mem_nil, or_false] at hm
    omega
  · intro u
    refine sorted_ext (innL_sorted ws) ?_ fun x => ?_
    · exact List.pairwise_cons.mpr ⟨fun x hx => by rw [List.mem_singleton.mp hx]; omega, List.pairwise_singleton _ _⟩
    · rw [mem_innL]
      simp only [List.mem_cons, List.not_mem_nil, or_false]
      constructor
      · rintro ⟨n, rfl, c⟩
        have n1 := c.1
        have n2 := Nat.le_of_dvd (by omega) c.2.1
        by_cases z1 : n = 1
        · exact .inl (by omega)
        · by_cases z2 : n = ws.length + 1
          · exact .inr (by omega)
          · have := u.2 n (by omega) (by omega)
            rw [per_iff.mpr (per_c.mpr c)] at this
            cases this
      · rintro (rfl | rfl)
        · exact ⟨1, rfl, per_c.mp (per_one ws)⟩
        · exact ⟨ws.length + 1, by push_cast; rfl, per_c.mp (per_all ws)⟩
theorem uns_const {m : Nat} {w : Int} : Uns (List.replicate m w) ↔ 0 < m ∧ ∀ j : Nat, 2 ≤ j → j < m + 1 → ¬ j ∣ m + 1 := by
  unfold Uns
  rw [List.length_replicate]
  constructor
  · rintro ⟨h1, h2⟩
    refine ⟨h1, fun j j1 j2 d => ?_⟩
    have := h2 j j1 j2
    rw [per_iff.mpr (per_const.mpr ⟨by omega, d⟩)] at this
    cases this
  · rintro ⟨h1, h2⟩
    exact ⟨h1, fun j j1 j2 => inn_false fun hp => h2 j j1 j2 (per_const.mp hp).2⟩
end Rn
namespace Rn
open PySem PySem.Spec PyProof.Rows L2
theorem sq_draw {K : PySem.W.Frag} {H0 H1 H' : Hp} {sa a : Addr} {c : Int} {xs : List V} (h : SqL K H0 sa xs) (f : H0 a = none) (s : Same H0 H1) (A : Rdv a c H1 H') : SqL K H' sa xs := by
  rcases h with (h | ⟨o, h⟩) | h
  · have ne : sa ≠ a := fun z => by rw [z, f] at h; cases h
    exact .inl (.inl (hid_get (A.same _ _ (hid_at (s _ _ h) ne ne))).1)
  · have ne : sa ≠ a := fun z => by rw [z, f] at h; cases h
    exact .inl (.inr ⟨o, (hid_get (A.same _ _ (hid_at (s _ _ h) ne ne))).1⟩)
  · exact .inr h
end Rn
namespace Rn
open PySem PySem.Spec PyProof.Rows L2
theorem nest_split {ws : List Int} {n : Nat} (h : PerC ws n) : nestL (blk ws n 0) (pks ws (n - 1) n) = ws := by
  obtain ⟨q, hq⟩ := h.2.1
  have n1 := h.1
  have q1 : 1 ≤ q := by
    rcases Nat.eq_zero_or_pos q with z | z
    · rw [z, Nat.mul_zero] at hq; omega
    · exact z
  have l1 := low_len h
  have l2 := high_len n1 q1 hq
  have ln := nestL_len (blk ws n 0) (pks ws (n - 1) n)
  rw [l1, l2, Nat.sub_add_cancel n1, Nat.sub_add_cancel q1, ← hq] at ln
  apply List.ext_getElem?
  intro j
  by_cases hj : j < ws.length
  · rw [nestL_get _ _ _ (by omega), l1, Nat.sub_add_cancel n1]
    have hdm := Nat.div_add_mod (j + 1) n
    by_cases c : (j + 1) % n = 0
    · rw [if_pos c]
      rw [c, Nat.add_zero] at hdm
      have k1 : 1 ≤ (j + 1) / n := by
        rcases Nat.eq_zero_or_pos ((j + 1) / n) with z | z
        · rw [z, Nat.mul_zero] at hdm; omega
        · exact z
      have k2 : (j + 1) / n < q := by
        rw [Nat.div_lt_iff_lt_mul (by omega), Nat.mul_comm, ← hq]
        omega
      have := high_wt n1 q1 hq k1 k2
      rw [hdm] at this
      exact this
    · rw [if_neg c]
      have ml := Nat.mod_lt (j + 1) (show n > 0 by omega)
      have h1 := low_wt (ws := ws) (n := n) (j := (j + 1) % n) (by omega) ml
      have h2 := h.2.2 (j + 1) ((j + 1) % n) (by omega) (by omega) (by omega) (by
        have := Nat.mod_le (j + 1) n
        omega) (by rw [Nat.mod_mod]) c
      exact h1.trans h2.symm
  · rw [List.getElem?_eq_none (by omega), List.getElem?_eq_none (by omega)]
theorem blk_mem {ws : List Int} {n c : Nat} {x : Int} (h : x ∈ blk ws n c) : x ∈ ws := List.mem_of_mem_drop (List.mem_of_mem_take h)
theorem pks_mem {ws : List Int} {lo c : Nat} {x : Int} (h : x ∈ pks ws lo c) : x ∈ ws := by
  unfold pks at h
  obtain ⟨i, _, hi⟩ := List.mem_filterMap.mp h
  exact List.mem_of_getElem? hi
theorem ne_same {d : PyData} {A B : Prop} (h : d.canLay0 = true) (b : B) : if (!PyData.eqv d d) = true then A else B := by
  rw [eqv_refl' d h]
  exact iteF b
end Rn

set_option Elab.async false
set_option linter.all false
set_option maxRecDepth 100000
set_option maxHeartbeats 4000000
namespace Rn
open PySem PySem.Spec PyProof.Rows L2
/-! # normal forms: one for each policy -/
def Lay.sz (L : Lay) : Nat := L.waits.length + 1
theorem per_low0 {ws : List Int} {n : Nat} (h : PerC ws n) : (blk ws n 0).length + 1 = n := by
  have := low_len h
  have := h.1
  omega
theorem nestL_inj {xs xs' : List Int} : ∀ {ys ys' : List Int}, xs.length = xs'.length → nestL xs ys = nestL xs' ys' → xs = xs' ∧ ys = ys' := by
  intro ys ys' hl h
  have key : ∀ (zs zs' : List Int), (zs.flatMap fun y => y :: xs) = (zs'.flatMap fun y => y :: xs) → zs = zs' := by
    intro zs
    induction zs with
    | nil => intro zs' h; cases zs' with
      | nil => rfl
      | cons z zs' => simp at h
    | cons z zs ih => intro zs' h; cases zs' with
      | nil => simp at h
      | cons z' zs' =>
        rw [List.flatMap_cons, List.flatMap_cons, List.cons_append, List.cons_append] at h
        injection h with h1 h2
        rw [h1, ih zs' (List.append_cancel_left h2)]
  unfold nestL at h
  obtain ⟨e1, e2⟩ := List.append_inj h hl
  subst e1
  exact ⟨rfl, key _ _ e2⟩
/-- a list of equal waits -/
def Flat1 (ns : List Int) : Prop := ∃ w, ns = List.replicate ns.length w
theorem flat1_of {ns : List Int} {w : Int} (h : ∀ x ∈ ns, x = w) : ns = List.replicate ns.length w := List.eq_replicate_iff.mpr ⟨rfl, h⟩
/-- a layer of a normal form -/
def Lay.nf : Lay → Prop
  | .con w n => 0 ≤ w ∧ 2 ≤ n
  | .pol ns => Uns ns ∧ ¬ Flat1 ns ∧ ∀ x ∈ ns, 0 ≤ x
theorem Lay.nf.ok {L : Lay} (h : L.nf) : L.ok = true := by
  cases L with
  | con w n =>
    obtain ⟨h1, h2⟩ := h
    rw [Lay.ok_con, decide_eq_true h1, decide_eq_true (show 1 ≤ n by omega)]
    rfl
  | pol ns =>
    rw [Lay.ok_pol, List.all_eq_true]
    exact fun x hx => decide_eq_true (h.2.2 x hx)
theorem Lay.nf.sz {L : Lay} (h : L.nf) : 2 ≤ L.sz := by
  cases L with
  | con w n =>
    show 2 ≤ (List.replicate (n - 1).toNat w).length + 1
    rw [List.length_replicate]
    have := h.2
    omega
  | pol ns =>
    show 2 ≤ ns.length + 1
    have := h.1.1
    omega
/-- no neighbouring constant layers with one wait -/
def Adj (ls : List Lay) : Prop := ∀ (i : Nat) (w n w' m : Int), ls[i]? = some (.con w n) → ls[i + 1]? = some (.con w' m) → w ≠ w'
def NF (ls : List Lay) : Prop := (∀ L ∈ ls, L.nf) ∧ Adj ls
theorem NF.tail {L : Lay} {ls : List Lay} (h : NF (L :: ls)) : NF ls := ⟨fun M hM => h.1 M (List.mem_cons_of_mem _ hM), fun i w n w' m a b => h.2 (i + 1) w n w' m a b⟩
theorem NF.oks {ls : List Lay} (h : NF ls) : ∀ L ∈ ls, L.ok = true := fun L hL => (h.1 L hL).ok
theorem head_per {L : Lay} {ls : List Lay} (h : ∀ M ∈ L :: ls, M.ok = true) : PerC (flatL (L :: ls)) L.sz := by
  rw [flatL_cons h]
  exact per_c.mp (per_nest _ _)
theorem head_split {L : Lay} {ls : List Lay} (h : ∀ M ∈ L :: ls, M.ok = true) : blk (flatL (L :: ls)) L.sz 0 = L.waits ∧ pks (flatL (L :: ls)) (L.sz - 1) L.sz = flatL ls := by
  have hp := head_per h
  have e := nest_split hp
  have l0 := per_low0 hp
  have e2 := flatL_cons h
  refine nestL_inj ?_ (e.trans e2)
  unfold Lay.sz at l0 ⊢
  omega
/-- an unsplittable inner part that is not constant stands in every inner part -/
theorem uns_in {ws : List Int} {a q : Nat} (ha : PerC ws a) (hu : Uns (blk ws a 0)) (hn : ¬ Flat1 (blk ws a 0)) (hq : PerC ws q) (q2 : 2 ≤ q) : a ∣ q := by
  have hg := per_gcd ha hq
  have ga := Nat.gcd_dvd_left a q
  have gq := Nat.gcd_dvd_right a q
  have la := per_low0 ha
  have a0 := hu.1
  by_cases c1 : Nat.gcd a q = a
  · exact c1 ▸ gq
  · exfalso
    have g0 : 1 ≤ Nat.gcd a q := Nat.gcd_pos_of_pos_left _ (by omega)
    have gle := Nat.le_of_dvd (by omega) ga
    by_cases c2 : Nat.gcd a q = 1
    · have hb := per_between (g := 1) (p := a) (q := q) (by rw [Nat.one_mul]; exact ha) (by rw [Nat.one_mul]; exact hq) c2 (by omega) (by omega)
      apply hn
      refine ⟨(blk ws a 0).getD 0 0, flat1_of fun x hx => ?_⟩
      obtain ⟨i, hi, e⟩ := List.getElem_of_mem hx
      have w1 := low_wt (ws := ws) (n := a) (j := i + 1) (by omega) (by omega)
      have w2 := low_wt (ws := ws) (n := a) (j := 1) (by omega) (by omega)
      have h1 := hb (i + 1) (by omega) (by
        have : a * 2 ≤ a * q := Nat.mul_le_mul_left _ q2
        omega)
      rw [Nat.one_mul] at h1
      have h2 : wt (blk ws a 0) (i + 1) = wt (blk ws a 0) 1 := by rw [w1, w2, h1]
      unfold wt at h2
      rw [Nat.add_sub_cancel, Nat.sub_self, List.getElem?_eq_getElem hi] at h2
      rw [List.getD_eq_getElem?_getD, ← h2, ← e]
      rfl
    · have h1 : PerC (blk ws a 0) (Nat.gcd a q) := (per_low ha).mpr ⟨hg, ga⟩
      have h2 := hu.2 (Nat.gcd a q) (by omega) (by omega)
      rw [per_iff.mpr (per_c.mpr h1)] at h2
      cases h2
theorem blk_prefix {ws : List Int} {a q : Nat} (h : a ≤ q) (ha : 1 ≤ a) : blk ws a 0 = (blk ws q 0).take (a - 1) := by
  unfold blk
  rw [Nat.zero_mul, Nat.zero_mul, List.take_take]
  congr 1
  omega
theorem flat1_take {xs : List Int} {k : Nat} (h : Flat1 xs) : Flat1 (xs.take k) := by
  obtain ⟨w, hw⟩ := h
  refine ⟨w, flat1_of fun x hx => ?_⟩
  have := List.mem_of_mem_take hx
  rw [hw] at this
  exact (List.mem_replicate.mp this).2
/-- where an inner part is constant, the first layer is a constant one with its wait -/
theorem head_con {ls : List Lay} (h : NF ls) {q : Nat} {w : Int} (hq : PerC (flatL ls) q) (q2 : 2 ≤ q) (hw : ∀ x ∈ blk (flatL ls) q 0, x = w) : ∃ n r, ls = .con w n :: r := by
  have lq := per_low0 hq
  cases ls with
  | nil =>
    have := Nat.le_of_dvd (by omega) hq.2.1
    have e : (flatL []).length = 0 := rfl
    omega
  | cons L r =>
    obtain ⟨e1, e2⟩ := head_split h.oks
    have hp := head_per h.oks
    have hL := h.1 L List.mem_cons_self
    cases L with
    | pol ns =>
      exfalso
      have hd := uns_in hp (by rw [e1]; exact hL.1) (by rw [e1]; exact hL.2.1) hq q2
      have hle := Nat.le_of_dvd (by omega) hd
      have e3 := blk_prefix (ws := flatL (.pol ns :: r)) hle hp.1
      apply hL.2.1
      have e4 : ns = (blk (flatL (.pol ns :: r)) q 0).take ((Lay.pol ns).sz - 1) := by rw [← e3, e1]; rfl
      rw [e4]
      exact flat1_take ⟨w, flat1_of hw⟩
    | con v n =>
      have hs := hL.sz
      have l1 := per_low0 hp
      have p1 := low_wt (ws := flatL (.con v n :: r)) (n := (Lay.con v n).sz) (j := 1) (Nat.le_refl _) (by omega)
      have p2 := low_wt (ws := flatL (.con v n :: r)) (n := q) (j := 1) (Nat.le_refl _) (by omega)
      have p3 := p1.trans p2.symm
      unfold wt at p3
      rw [e1, Nat.sub_self] at p3
      have hq0 : 0 < (blk (flatL (.con v n :: r)) q 0).length := by omega
      rw [List.getElem?_eq_getElem hq0] at p3
      have x1 := hw _ (List.getElem_mem hq0)
      rw [x1] at p3
      have x2 : (List.replicate (n - 1).toNat v)[0]? = some w := p3
      have x3 := List.mem_of_getElem? x2
      rw [(List.mem_replicate.mp x3).2]
      exact ⟨n, r, rfl⟩
/-- two first layers, both constant: one divides the other -/
theorem con_con {w n v m : Int} {ls ms : List Lay} (hl : NF (.con w n :: ls)) (hm : NF (.con v m :: ms)) (e : flatL (.con w n :: ls) = flatL (.con v m :: ms)) : (Lay.con v m).sz ∣ (Lay.con w n).sz := by
  have pa := head_per hl.oks
  have pb := head_per hm.oks
  rw [← e] at pb
  obtain ⟨a1, a2⟩ := head_split hl.oks
  obtain ⟨b1, b2⟩ := head_split hm.oks
  rw [← e] at b1 b2
  have sa := (hl.1 _ List.mem_cons_self).sz
  have sb := (hm.1 _ List.mem_cons_self).sz
  generalize hws : flatL (.con w n :: ls) = ws at *
  generalize ha : (Lay.con w n).sz = a at *
  generalize hb : (Lay.con v m).sz = b at *
  have la := per_low0 pa
  have lb := per_low0 pb
  have wa : ∀ j, 1 ≤ j → j < a → wt ws j = some w := fun j j1 j2 => by
    rw [← low_wt j1 j2]
    unfold wt
    rw [a1]
    have : j - 1 < (Lay.con w n).waits.length := by rw [a1] at la; omega
    rw [List.getElem?_eq_getElem this]
    have := List.getElem_mem this
    exact congrArg some (List.mem_replicate.mp (show _ ∈ List.replicate (n - 1).toNat w from this)).2
  have wb : ∀ j, 1 ≤ j → j < b → wt ws j = some v := fun j j1 j2 => by
    rw [← low_wt j1 j2]
    unfold wt
    rw [b1]
    have : j - 1 < (Lay.con v m).waits.length := by rw [b1] at lb; omega
    rw [List.getElem?_eq_getElem this]
    have := List.getElem_mem this
    exact congrArg some (List.mem_replicate.mp (show _ ∈ List.replicate (m - 1).toNat v from this)).2
  have ewv : w = v := Option.some.inj ((wa 1 (Nat.le_refl _) (by omega)).symm.trans (wb 1 (Nat.le_refl _) (by omega)))
  subst ewv
  have pl := per_lcm pa pb
  have dl : a ∣ Nat.lcm a b := Nat.dvd_lcm_left a b
  obtain ⟨c, hc⟩ := dl
  by_cases c1 : c = 1
  · rw [c1, Nat.mul_one] at hc
    rw [← hc]
    exact Nat.dvd_lcm_right a b
  · exfalso
    have c0 : c ≠ 0 := by
      intro z
      rw [z, Nat.mul_zero] at hc
      have := Nat.lcm_pos (show 0 < a by omega) (show 0 < b by omega)
      omega
    have ph : PerC (pks ws (a - 1) a) c := (per_high pa (by omega)).mpr (by rw [← hc]; exact pl)
    have lle := Nat.le_of_dvd (by omega) pl.2.1
    obtain ⟨q, hq⟩ := pa.2.1
    have q1 : 1 ≤ q := by
      rcases Nat.eq_zero_or_pos q with z | z
      · rw [z, Nat.mul_zero] at hq; omega
      · exact z
    have lhi := high_len pa.1 q1 hq
    have lc := per_low0 ph
    have cq := Nat.le_of_dvd (by omega) ph.2.1
    rw [lhi] at cq
    rw [a2] at ph lc
    obtain ⟨k, r, hr⟩ := head_con hl.tail (w := w) ph (by omega) fun x hx => by
      obtain ⟨i, hi, ex⟩ := List.getElem_of_mem hx
      have h1 := low_wt (ws := flatL ls) (n := c) (j := i + 1) (by omega) (by omega)
      have h2 := high_wt (ws := ws) pa.1 q1 hq (j := i + 1) (by omega) (by omega)
      rw [a2] at h2
      have h3 := h1.trans h2
      unfold wt at h3
      rw [Nat.add_sub_cancel, List.getElem?_eq_getElem hi, ex] at h3
      have hlt : a * (i + 1) < Nat.lcm a b := by
        rw [hc]
        exact Nat.mul_lt_mul_of_pos_left (by omega) (by omega)
      have nd : (a * (i + 1)) % b ≠ 0 := fun z => by
        have d1 : b ∣ a * (i + 1) := Nat.dvd_of_mod_eq_zero z
        have d2 := Nat.lcm_dvd (Nat.dvd_mul_right a (i + 1)) d1
        have pos : 0 < a * (i + 1) := Nat.mul_pos (by omega) (by omega)
        have := Nat.le_of_dvd pos d2
        omega
      have ml := Nat.mod_lt (a * (i + 1)) (show b > 0 by omega)
      have pos : 1 ≤ a * (i + 1) := Nat.mul_pos (by omega) (by omega)
      have mle := Nat.mod_le (a * (i + 1)) b
      have h4 := pb.2.2 (a * (i + 1)) ((a * (i + 1)) % b) pos (by omega) (by omega) (by omega) (by rw [Nat.mod_mod]) nd
      have h5 := wb ((a * (i + 1)) % b) (by omega) ml
      unfold wt at h4 h5
      rw [← h3, h5] at h4
      exact Option.some.inj h4
    rw [hr] at hl
    exact hl.2 0 w n w k rfl rfl rfl
theorem nf_unique : ∀ {ls ms : List Lay}, NF ls → NF ms → flatL ls = flatL ms → ls = ms := by
  have short : ∀ {L : Lay} {r : List Lay}, NF (L :: r) → 0 < (flatL (L :: r)).length := fun {L r} h => by
    have hp := head_per h.oks
    have hs := (h.1 L List.mem_cons_self).sz
    have := Nat.le_of_dvd (by omega) hp.2.1
    omega
  intro ls
  induction ls with
  | nil =>
    intro ms _ hm e
    cases ms with
    | nil => rfl
    | cons M r =>
      have := short hm
      rw [← e] at this
      exact absurd this (Nat.lt_irrefl 0)
  | cons L ls ih =>
    intro ms hl hm e
    cases ms with
    | nil =>
      have := short hl
      rw [e] at this
      exact absurd this (Nat.lt_irrefl 0)
    | cons M ms =>
      have pa := head_per hl.oks
      have pb := head_per hm.oks
      obtain ⟨a1, a2⟩ := head_split hl.oks
      obtain ⟨b1, b2⟩ := head_split hm.oks
      have nL := hl.1 L List.mem_cons_self
      have nM := hm.1 M List.mem_cons_self
      have sa := nL.sz
      have sb := nM.sz
      have fin : L.sz = M.sz → L = M → L :: ls = M :: ms := fun e1 e2 => by
        subst e2
        rw [flatL_cons hl.oks, flatL_cons hm.oks] at e
        rw [ih hl.tail hm.tail (nestL_inj rfl e).2]
      have same : L.sz = M.sz → L.waits = M.waits := fun e1 => by rw [← a1, ← b1, e, e1]
      cases L with
      | pol ns =>
        have ua := fun {q : Nat} (hq : PerC (flatL (.pol ns :: ls)) q) (q2 : 2 ≤ q) => uns_in pa (by rw [a1]; exact nL.1) (by rw [a1]; exact nL.2.1) hq q2
        cases M with
        | pol ms' =>
          have d1 := ua (by rw [e]; exact pb) sb
          have d2 := uns_in pb (by rw [b1]; exact nM.1) (by rw [b1]; exact nM.2.1) (by rw [← e]; exact pa) sa
          have es := Nat.dvd_antisymm d1 d2
          have := same es
          exact fin es (congrArg Lay.pol this)
        | con v m =>
          exfalso
          have d1 := ua (by rw [e]; exact pb) sb
          have hle := Nat.le_of_dvd (by omega) d1
          have e3 := blk_prefix (ws := flatL (.pol ns :: ls)) hle pa.1
          rw [a1, e, b1] at e3
          apply nL.2.1
          have e4 : ns = (Lay.con v m).waits.take ((Lay.pol ns).sz - 1) := e3
          rw [e4]
          exact flat1_take ⟨v, by
            show List.replicate (m - 1).toNat v = List.replicate (List.replicate (m - 1).toNat v).length v
            rw [List.length_replicate]⟩
      | con w n =>
        cases M with
        | pol ms' =>
          exfalso
          have d1 := uns_in pb (by rw [b1]; exact nM.1) (by rw [b1]; exact nM.2.1) (by rw [← e]; exact pa) sa
          have hle := Nat.le_of_dvd (by omega) d1
          have e3 := blk_prefix (ws := flatL (.pol ms' :: ms)) hle pb.1
          rw [b1, ← e, a1] at e3
          apply nM.2.1
          have e4 : ms' = (Lay.con w n).waits.take ((Lay.pol ms').sz - 1) := e3
          rw [e4]
          exact flat1_take ⟨w, by
            show List.replicate (n - 1).toNat w = List.replicate (List.replicate (n - 1).toNat w).length w
            rw [List.length_replicate]⟩
        | con v m =>
          have d1 := con_con hl hm e
          have d2 := con_con hm hl e.symm
          have es := Nat.dvd_antisymm d2 d1
          have ew := same es
          have s1 : (Lay.con w n).sz = (n - 1).toNat + 1 := by
            show (List.replicate (n - 1).toNat w).length + 1 = _
            rw [List.length_replicate]
          have s2 : (Lay.con v m).sz = (m - 1).toNat + 1 := by
            show (List.replicate (m - 1).toNat v).length + 1 = _
            rw [List.length_replicate]
          have n2 := nL.2
          have m2 := nM.2
          have enm : n = m := by omega
          subst enm
          obtain ⟨k, hk⟩ : ∃ k, (n - 1).toNat = k + 1 := ⟨(n - 1).toNat - 1, by omega⟩
          have ew' : List.replicate (n - 1).toNat w = List.replicate (n - 1).toNat v := ew
          rw [hk, List.replicate_succ, List.replicate_succ] at ew'
          injection ew' with ew1 ew2
          subst ew1
          exact fin rfl rfl
end Rn
namespace Rn
open PySem PySem.Spec PyProof.Rows L2
/-! ## the parts of a list -/
theorem sm_per {ws : List Int} {n : Nat} (h : Sm ws n) (h0 : 0 < ws.length) : 2 ≤ n ∧ PerC ws n := by
  rcases h.1 with e | ⟨h1, h2, h3⟩
  · exact ⟨by omega, by rw [e]; exact per_c.mp (per_all ws)⟩
  · exact ⟨h1, per_c.mp (per_iff.mp h3)⟩
theorem sm_uns_low {ws : List Int} {n : Nat} (h : Sm ws n) (h0 : 0 < ws.length) : Uns (blk ws n 0) := by
  obtain ⟨n2, hp⟩ := sm_per h h0
  have hl := per_low0 hp
  refine ⟨by omega, fun j j1 j2 => inn_false fun z => ?_⟩
  have h1 := ((per_low hp).mp (per_c.mp z)).1
  have := h.2 j j1 (by omega)
  rw [per_iff.mpr (per_c.mpr h1)] at this
  cases this
inductive Parts : List Int → List Lay → Prop
  | nil : Parts [] []
  | con {ws : List Int} {n : Nat} {w : Int} {ls : List Lay} (h0 : 0 < ws.length) (hm : Sm ws n) (hc : blk ws n 0 = List.replicate (n - 1) w) (t : Parts (pks ws (n - 1) n) ls) : Parts ws (.con w (n : Int) :: ls)
  | pol {ws : List Int} {n : Nat} {ls : List Lay} (h0 : 0 < ws.length) (hm : Sm ws n) (hc : ¬ Flat1 (blk ws n 0)) (t : Parts (pks ws (n - 1) n) ls) : Parts ws (.pol (blk ws n 0) :: ls)
theorem parts_ok {ws : List Int} {ls : List Lay} (h : Parts ws ls) (hn : ∀ x ∈ ws, 0 ≤ x) : (∀ L ∈ ls, L.nf) ∧ flatL ls = ws := by
  induction h with
  | nil => exact ⟨(fun _ z => nomatch z), rfl⟩
  | con h0 hm hc t ih =>
    rename_i ws n w ls
    obtain ⟨i1, i2⟩ := ih fun x hx => hn x (pks_mem hx)
    obtain ⟨n2, hp⟩ := sm_per hm h0
    have hw : w ∈ blk ws n 0 := by rw [hc]; exact List.mem_replicate.mpr ⟨by omega, rfl⟩
    have g : (Lay.con w (n : Int)).nf := ⟨hn w (blk_mem hw), by omega⟩
    have all : ∀ L ∈ Lay.con w (n : Int) :: ls, L.nf := fun L hL => by
      rcases List.mem_cons.mp hL with e | e
      · rw [e]; exact g
      · exact i1 L e
    refine ⟨all, ?_⟩
    rw [flatL_cons fun L hL => (all L hL).ok, i2]
    have e : (Lay.con w (n : Int)).waits = blk ws n 0 := by
      rw [hc]
      show List.replicate ((n : Int) - 1).toNat w = _
      congr 1
      omega
    rw [e, nest_split hp]
  | pol h0 hm hc t ih =>
    rename_i ws n ls
    obtain ⟨i1, i2⟩ := ih fun x hx => hn x (pks_mem hx)
    obtain ⟨n2, hp⟩ := sm_per hm h0
    have g : (Lay.pol (blk ws n 0)).nf := ⟨sm_uns_low hm h0, hc, fun x hx => hn x (blk_mem hx)⟩
    have all : ∀ L ∈ Lay.pol (blk ws n 0) :: ls, L.nf := fun L hL => by
      rcases List.mem_cons.mp hL with e | e
      · rw [e]; exact g
      · exact i1 L e
    refine ⟨all, ?_⟩
    rw [flatL_cons fun L hL => (all L hL).ok, i2]
    exact nest_split hp
/-! ## merging -/
def pushL (acc : List Lay) (L : Lay) : List Lay :=
  match acc.getLast?, L with
  | some (.con w n), .con v m => if w = v then acc.dropLast ++ [.con w (n * m)] else acc ++ [L]
  | _, _ => acc ++ [L]
def mergeL (ls : List Lay) : List Lay := ls.foldl pushL []
theorem flatF {ls : List Lay} (h : ∀ L ∈ ls, L.ok = true) (L : Lay) (hL : L.ok = true) : flatL (ls ++ [L]) = nestL (flatL ls) L.waits := by
  have h2 : ∀ M ∈ ls ++ [L], M.ok = true := fun M hM => by
    rcases List.mem_append.mp hM with z | z
    · exact h M z
    · rw [List.mem_singleton.mp z]; exact hL
  rw [flatL_fold h2, flatL_fold h, List.foldl_append]
  rfl
theorem nest_rep (a b : Nat) (w : Int) : nestL (List.replicate a w) (List.replicate b w) = List.replicate ((a + 1) * (b + 1) - 1) w := by
  refine List.eq_replicate_iff.mpr ⟨?_, fun x hx => ?_⟩
  · have := nestL_len (List.replicate a w) (List.replicate b w)
    rw [List.length_replicate, List.length_replicate] at this
    omega
  · rcases nestL_mem hx with z | z
    · exact (List.mem_replicate.mp z).2
    · exact (List.mem_replicate.mp z).2
theorem push_cases (acc : List Lay) (L : Lay) : (∃ A w n m, acc = A ++ [.con w n] ∧ L = .con w m ∧ pushL acc L = A ++ [.con w (n * m)]) ∨ (pushL acc L = acc ++ [L] ∧ ∀ A w n v m, acc = A ++ [.con w n] → L = .con v m → w ≠ v) := by
  unfold pushL
  rcases List.eq_nil_or_concat acc with e | ⟨A, B, e⟩
  · subst e
    exact .inr ⟨rfl, fun A w n v m z => absurd z (by simp)⟩
  · rw [List.concat_eq_append] at e
    subst e
    rw [List.getLast?_append, List.getLast?_singleton, Option.some_or]
    cases B with
    | pol ns => exact .inr ⟨rfl, fun A' w n v m z => by have := (List.append_inj' z rfl).2; cases this⟩
    | con w n =>
      cases L with
      | pol ms => exact .inr ⟨rfl, fun A' w n v m z z2 => by cases z2⟩
      | con v m =>
        by_cases c : w = v
        · subst c
          exact .inl ⟨A, w, n, m, rfl, rfl, by rw [List.dropLast_concat]; exact if_pos rfl⟩
        · refine .inr ⟨if_neg c, fun A' w' n' v' m' z z2 => ?_⟩
          have := (List.append_inj' z rfl).2
          cases this
          cases z2
          exact c
theorem push_ok {acc : List Lay} {L : Lay} (h : NF acc) (hL : L.nf) : NF (pushL acc L) ∧ flatL (pushL acc L) = nestL (flatL acc) L.waits := by
  rcases push_cases acc L with ⟨A, w, n, m, rfl, rfl, e⟩ | ⟨e, hne⟩
  · rw [e]
    have hc := h.1 (.con w n) (List.mem_append_right _ List.mem_cons_self)
    have n2 : 2 ≤ n := hc.2
    have m2 : 2 ≤ m := hL.2
    have nm : 2 * 2 ≤ n * m := Int.mul_le_mul n2 m2 (by decide) (by omega)
    have g : (Lay.con w (n * m)).nf := ⟨hc.1, by omega⟩
    have hA : ∀ M ∈ A, M.nf := fun M hM => h.1 M (List.mem_append_left _ hM)
    refine ⟨⟨fun M hM => ?_, fun i v k v' k' a b => ?_⟩, ?_⟩
    · rcases List.mem_append.mp hM with z | z
      · exact hA M z
      · rw [List.mem_singleton.mp z]; exact g
    · have hi : i + 1 < (A ++ [Lay.con w (n * m)]).length := (List.getElem?_eq_some_iff.mp b).1
      rw [List.length_append, List.length_singleton] at hi
      rw [List.getElem?_append_left (by omega)] at a
      by_cases hj : i + 1 < A.length
      · rw [List.getElem?_append_left hj] at b
        exact h.2 i v k v' k' (by rw [List.getElem?_append_left (by omega)]; exact a) (by rw [List.getElem?_append_left hj]; exact b)
      · have ej : i + 1 = A.length := by omega
        rw [List.getElem?_append_right (by omega), ej, Nat.sub_self] at b
        cases b
        exact h.2 i v k w n (by rw [List.getElem?_append_left (by omega)]; exact a) (by rw [List.getElem?_append_right (by omega), ej, Nat.sub_self]; rfl)
    · rw [flatF (fun M hM => (hA M hM).ok) _ g.ok, flatF (fun M hM => (hA M hM).ok) _ hc.ok, nestL_assoc]
      congr 1
      show List.replicate (n * m - 1).toNat w = nestL (List.replicate (n - 1).toNat w) (List.replicate (m - 1).toNat w)
      rw [nest_rep, show (n - 1).toNat + 1 = n.toNat by omega, show (m - 1).toNat + 1 = m.toNat by omega, ← Int.toNat_mul (by omega) (by omega)]
      congr 1
      omega
  · rw [e]
    refine ⟨⟨fun M hM => ?_, fun i v k v' k' a b => ?_⟩, flatF h.oks L hL.ok⟩
    · rcases List.mem_append.mp hM with z | z
      · exact h.1 M z
      · rw [List.mem_singleton.mp z]; exact hL
    · have hi : i + 1 < (acc ++ [L]).length := (List.getElem?_eq_some_iff.mp b).1
      rw [List.length_append, List.length_singleton] at hi
      rw [List.getElem?_append_left (by omega)] at a
      by_cases hj : i + 1 < acc.length
      · rw [List.getElem?_append_left hj] at b
        exact h.2 i v k v' k' a b
      · have ej : i + 1 = acc.length := by omega
        rw [List.getElem?_append_right (by omega), ej, Nat.sub_self] at b
        have b : some L = some (Lay.con v' k') := b
        have hA : acc = acc.dropLast ++ [Lay.con v k] := by
          have hne2 : acc ≠ [] := fun z => by rw [z] at ej; simp at ej
          have h1 := (List.dropLast_concat_getLast hne2).symm
          have h2 : acc.getLast hne2 = Lay.con v k := by
            have h3 : acc[acc.length - 1]? = some (acc.getLast hne2) := by rw [← List.getLast?_eq_getElem?, List.getLast?_eq_some_getLast hne2]
            rw [show acc.length - 1 = i by omega, a] at h3
            exact (Option.some.inj h3).symm
          rw [h2] at h1
          exact h1
        exact hne _ v k v' k' hA (Option.some.inj b)
theorem merge_from : ∀ (ls : List Lay) {acc : List Lay}, NF acc → (∀ L ∈ ls, L.nf) → NF (ls.foldl pushL acc) ∧ flatL (ls.foldl pushL acc) = ls.foldl (fun a L => nestL a L.waits) (flatL acc)
  | [], acc, h, _ => ⟨h, rfl⟩
  | L :: ls, acc, h, hl => by
    obtain ⟨p1, p2⟩ := push_ok h (hl L List.mem_cons_self)
    obtain ⟨q1, q2⟩ := merge_from ls p1 fun M hM => hl M (List.mem_cons_of_mem _ hM)
    exact ⟨q1, by rw [List.foldl_cons, q2, p2, List.foldl_cons]⟩
theorem merge_ok {ls : List Lay} (h : ∀ L ∈ ls, L.nf) : NF (mergeL ls) ∧ flatL (mergeL ls) = flatL ls := by
  have h0 : NF ([] : List Lay) := ⟨(fun _ z => nomatch z), fun i w n w' m a => by cases a⟩
  obtain ⟨p1, p2⟩ := merge_from ls h0 h
  refine ⟨p1, ?_⟩
  rw [flatL_fold fun L hL => (h L hL).ok]
  exact p2
/-! ## rules of the written part; comprehensions with two for -/
theorem pi_listK {X : Cx} {K : PySem.W.Frag} (h : X.K = K) {tg l : Expr} {tl : TE} (hl : PE X l tl) : PI X tg l (iList K tl) := by subst h; exact pi_list hl
/-- the inner for, over a list that stands still -/
theorem in_list {K : PySem.W.Frag} {b : Addr} {ys : List V} {g1 : TG} {tt1 : TT} {te : TE} {vs1 : List Nat} {σ2 : L2.St} {H4 : Hp} {D : Addr} {Nx : Hp → Prop} (Pw : Nat → Hp → Prop) (h0 : Pw 0 H4) (hl : ∀ j H, j ≤ ys.length → Pw j H → SqL K H b ys)
    (hs : ∀ j y H, ys[j]? = some y → Pw j H → g1 y (wipe σ2 vs1) H fun σ3 H5 => wipe σ3 vs1 = wipe σ2 vs1 ∧ tt1 σ3 H5 fun c H6 => if c = true then te σ3 H6 fun v H7 => ∃ acc, H7 D = some (.lst acc) ∧ acc.length < sizeLine ∧ Pw (j + 1) (upd H7 D (.lst (acc ++ [v]))) else Pw (j + 1) H6)
    (hd : ∀ H, Pw ys.length H → Nx H) :
    ∃ W1 : Nat → Nat → Hp → Prop, (∃ m, W1 0 m H4) ∧ ∀ j k H, W1 j k H →
      ((Itl K b).stop j H ∧ Nx H) ∨ ((Itl K b).go j H ∧ ∃ Nx1 : Hp → Prop, (∀ H', Nx1 H' → ∃ k', k' < k ∧ W1 (j + 1) k' H') ∧ ∀ x H', (Itl K b).yld j H x H' → g1 x (wipe σ2 vs1) H' fun σ3 H5 => wipe σ3 vs1 = wipe σ2 vs1 ∧ tt1 σ3 H5 fun c H6 =>
        if c = true then te σ3 H6 fun y H7 => ∃ acc, H7 D = some (.lst acc) ∧ acc.length < sizeLine ∧ Nx1 (upd H7 D (.lst (acc ++ [y]))) else Nx1 H6) := by
  refine ⟨fun i m H => m = ys.length - i ∧ i ≤ ys.length ∧ Pw i H, ⟨ys.length, by simp, Nat.zero_le _, h0⟩, ?_⟩
  rintro i m H ⟨rfl, hi, p⟩
  have q := hl i H hi p
  by_cases hlt : i < ys.length
  · refine .inr ⟨⟨ys, ys[i], q, by simp [hlt]⟩, Pw (i + 1), fun H' p' => ⟨ys.length - (i + 1), by omega, rfl, hlt, p'⟩, fun x H' y => ?_⟩
    obtain ⟨e, y⟩ := y
    subst e
    exact hs i x _ (y ys q) p
  · have e : i = ys.length := by omega
    subst e
    exact .inl ⟨⟨ys, q, Nat.le_refl _⟩, hd H p⟩
/-- the outer for -/
theorem out_list {K : PySem.W.Frag} {a : Addr} {xs : List V} {vs : List Nat} {σ : L2.St} {H1 : Hp} {D : Addr} {Qd : Hp → Prop} {B : V → Hp → (Hp → Prop) → Prop} (Pv : Nat → Hp → Prop) (h0 : Pv 0 (upd H1 D (.lst []))) (hl : ∀ i H, i ≤ xs.length → Pv i H → SqL K H a xs)
    (hs : ∀ i x H, xs[i]? = some x → Pv i H → B x H (Pv (i + 1))) (hd : ∀ H, Pv xs.length H → Qd H) :
    ∃ W : Nat → Nat → Hp → Prop, (∃ m, W 0 m (upd H1 D (.lst []))) ∧ ∀ i m H, W i m H →
      ((Itl K a).stop i H ∧ Qd H) ∨ ((Itl K a).go i H ∧ ∃ Nx : Hp → Prop, (∀ H', Nx H' → ∃ m', m' < m ∧ W (i + 1) m' H') ∧ ∀ x H', (Itl K a).yld i H x H' → B x H' Nx) := by
  refine ⟨fun i m H => m = xs.length - i ∧ i ≤ xs.length ∧ Pv i H, ⟨xs.length, by simp, Nat.zero_le _, h0⟩, ?_⟩
  rintro i m H ⟨rfl, hi, p⟩
  have q := hl i H hi p
  by_cases hlt : i < xs.length
  · refine .inr ⟨⟨xs, xs[i], q, by simp [hlt]⟩, Pv (i + 1), fun H' p' => ⟨xs.length - (i + 1), by omega, rfl, hlt, p'⟩, fun x H' y => ?_⟩
    obtain ⟨e, y⟩ := y
    subst e
    exact hs i x _ (y xs q) p
  · have e : i = xs.length := by omega
    subst e
    exact .inl ⟨⟨xs, q, Nat.le_refl _⟩, hd H p⟩
end Rn
namespace Rn
open PySem PySem.Spec PyProof.Rows L2
abbrev N0 : Hp := fun _ => none
theorem flat_app : ∀ {As Bs : List Lay}, (∀ L ∈ As, L.ok = true) → (∀ L ∈ Bs, L.ok = true) → flatL (As ++ Bs) = nestL (flatL As) (flatL Bs)
  | [], Bs, _, _ => by
    show flatL Bs = nestL [] (flatL Bs)
    rw [nil_nestL]
  | A :: As, Bs, h, h2 => by
    have h3 : ∀ L ∈ A :: (As ++ Bs), L.ok = true := fun L hL => by
      rcases List.mem_cons.mp hL with e | e
      · exact h L (e ▸ List.mem_cons_self)
      · rcases List.mem_append.mp e with z | z
        · exact h L (List.mem_cons_of_mem _ z)
        · exact h2 L z
    show flatL (A :: (As ++ Bs)) = _
    rw [flatL_cons h3, flatL_cons h, flat_app (fun L hL => h L (List.mem_cons_of_mem _ hL)) h2, nestL_assoc]
def sameC : Lay → Lay → Bool
  | .con w _, .con v _ => decide (w = v)
  | _, _ => false
theorem NestV.swap {H0 G : Hp} {p t : Addr} {us : List V} {u : V} {A : List Lay} {B C : Lay} (h : NestV H0 G p (us ++ [u]) (A ++ [B])) (hx : LayAt G (.ref t) C) (ne : t ≠ p) (fr : H0 t = none) :
    NestV H0 (upd G p (.lst (us ++ [.ref t]))) p (us ++ [.ref t]) (A ++ [C]) := by
  obtain ⟨h1, h2, h3, h4⟩ := h
  have hl : us.length = A.length := by
    rw [List.length_append, List.length_append] at h2
    exact Nat.succ.inj h2
  refine ⟨upd_same, by rw [List.length_append, List.length_append, hl]; rfl, fun i v M a b => ?_, fun y hy => ?_⟩
  · by_cases hi : i < us.length
    · rw [List.getElem?_append_left hi] at a
      rw [List.getElem?_append_left (by omega)] at b
      exact (h3 i v M (by rw [List.getElem?_append_left hi]; exact a) (by rw [List.getElem?_append_left (by omega)]; exact b)).keep fun y e => (h4 y (List.mem_append_left _ (e ▸ List.mem_of_getElem? a))).1
    · rw [List.getElem?_append_right (by omega)] at a
      rw [List.getElem?_append_right (by omega), ← hl] at b
      generalize i - us.length = k at *
      cases k with
      | zero =>
        cases a
        cases b
        exact hx.keep fun y e => by cases e; exact ne
      | succ k => cases a
  · rcases List.mem_append.mp hy with z | z
    · exact h4 y (List.mem_append_left _ z)
    · have := List.mem_singleton.mp z
      cases this
      exact ⟨ne, fr⟩
theorem ixN_last {n : Nat} (h : 0 < n) : ixN n (-1) = some (n - 1) := by
  unfold ixN
  rw [if_neg (by decide)]
  first
    | (rw [if_pos (by omega)]; congr 1; omega)
    | (simp; omega)
theorem set_last {α : Type} (us : List α) (u x : α) : (us ++ [u]).set ((us ++ [u]).length - 1) x = us ++ [x] := by
  rw [List.length_append, List.length_singleton, Nat.add_sub_cancel, List.set_append_right _ _ (Nat.le_refl _), Nat.sub_self]
  rfl
end Rn

set_option Elab.async false
set_option linter.all false
set_option maxRecDepth 100000
set_option maxHeartbeats 4000000
namespace Rn
open PySem PySem.Spec PyProof.Rows L2
section
variable {X : Cx}
theorem op_isB : OpR X (compareOp .Is) (fun x y H Q => ∃ a b : Bool, x = .bl a ∧ y = .bl b ∧ Q (.bl (decide (a = b))) H) := by
  intro pins s σ H x y v u Q I rx ry h
  obtain ⟨a, b, rfl, rfl, q⟩ := h
  cases rx
  cases ry
  refine wpAny_is_plain rfl (fin_bl I q ?_)
  cases a <;> cases b <;> rfl
/-- o[lo:hi] = a list -/
def gSlc (to tl th : TE) : TG := fun v σ H Q => to σ H fun x H1 => tPart tl σ H1 fun l H2 => tPart th σ H2 fun u H3 => ∃ (a b : Addr) (xs ys : List V) (i j : Nat), x = .ref a ∧ v = .ref b ∧ l = some (i : Int) ∧ u = some (j : Int) ∧ H3 a = some (.lst xs) ∧ H3 b = some (.lst ys) ∧ a ≠ b ∧
  i ≤ j ∧ j ≤ xs.length ∧ xs.length + ys.length ≤ sizeLine ∧ Q σ (upd H3 a (.lst (xs.take i ++ ys ++ xs.drop j)))
theorem pg_slc {o lo hi : Expr} {to tl th : TE} {p2 pos : Pos} (ho : PE X o to) (hl : PE X lo tl) (hh : PE X hi th)
    (ha : ∀ v, assign (.Subscript o (.Slice (some lo) (some hi) none p2) pos) X.env v = (do
      let ov ← holding [v] (eval o X.env)
      let iv ← holding [v, ov] (eval (.Slice (some lo) (some hi) none p2) X.env)
      standAt pos
      holding [v, ov, iv] (setItem ov iv v)
      release [iv, v, ov] []) := by intro _; rfl) : PG X (.Subscript o (.Slice (some lo) (some hi) none p2) pos) (gSlc to tl th) := by
  refine ⟨fun pins s σ H v u Q I r h => ?_⟩
  rw [ha]
  refine wpAny_bind (wpAny_holding (thn (ho.run pins s σ H _ I h) fun ov s1 z1 => ?_))
  obtain ⟨x, H1, I1, r1, q1⟩ := z1
  refine wpAny_bind (wpAny_holding (wpAny_Slice (thn ((po_some hl).run pins s1 σ H1 _ I1 q1) fun vl s2 z2 => ?_)))
  obtain ⟨l, H2, I2, pl, q2⟩ := z2
  refine thn ((po_some hh).run pins s2 σ H2 _ I2 q2) fun vu s3 z3 => ?_
  obtain ⟨w, H3, I3, pu, q3⟩ := z3
  rw [evalPart_none]
  refine wpAny_pure ?_
  obtain ⟨a, b, xs, ys, i, j, rfl, rfl, rfl, rfl, hH, hB, hne, hij, hj, hz, q⟩ := q3
  have I4 : Inv X pins σ H3 { s3 with heap := s3.heap.push { cls := .type "slice", data := .fields #[vl, vu, .none] } } := I3.kept (t' := s3.toks) fun b ob q => Heap.get?_push_of_some _ q
  cases r1
  cases r
  cases pl with
  | int _ t1 =>
  cases pu with
  | int _ t2 =>
  refine wpAny_bind (wpAny_standAt (wpAny_bind (wpAny_holding (set_slice I4 hH hB hne (Heap.IsSliceOf.new ..) ⟨t1, rfl⟩ ⟨t2, rfl⟩ (by omega) (by omega) (by omega) hz fun s' I' => ?_))))
  exact wpAny_release ⟨σ, _, I', q⟩
end
theorem attOf_cons (L : Lay) (Ls : List Lay) : attOf (L :: Ls) = L.cnt * attOf Ls := by
  have key : ∀ (Ls : List Lay) (a : Int), Ls.foldl (fun a L => a * L.cnt) a = a * attOf Ls := by
    intro Ls
    induction Ls with
    | nil => intro a; show a = a * 1; omega
    | cons L Ls ih =>
      intro a
      have h1 := ih (a * L.cnt)
      have h2 := ih (1 * L.cnt)
      show Ls.foldl (fun a L => a * L.cnt) (a * L.cnt) = a * Ls.foldl (fun a L => a * L.cnt) (1 * L.cnt)
      rw [h1, h2, Int.one_mul, Int.mul_assoc]
  have := key Ls (1 * L.cnt)
  rw [Int.one_mul] at this
  show Ls.foldl (fun a L => a * L.cnt) (1 * L.cnt) = _
  rw [Int.one_mul]
  exact this
theorem attOf_app : ∀ (As Bs : List Lay), attOf (As ++ Bs) = attOf As * attOf Bs
  | [], Bs => by show attOf Bs = 1 * attOf Bs; omega
  | A :: As, Bs => by rw [List.cons_append, attOf_cons, attOf_cons, attOf_app As Bs, Int.mul_assoc]
theorem attOf_rev : ∀ (As : List Lay), attOf As.reverse = attOf As
  | [] => rfl
  | A :: As => by
    rw [List.reverse_cons, attOf_snoc, attOf_rev As, attOf_cons, Int.mul_comm]
def layB : Lay → Lay → Bool
  | .pol ns, .pol ms => decide (ns = ms)
  | .con w n, .con v m => decide (w = v) && decide (n = m)
  | _, _ => false
theorem layB_iff {L M : Lay} : layB L M = true ↔ L = M := by
  cases L with
  | pol ns =>
    cases M with
    | pol ms =>
      show decide (ns = ms) = true ↔ _
      rw [decide_eq_true_eq]
      exact ⟨fun z => by rw [z], fun z => by injection z⟩
    | con w n => exact ⟨fun z => (by cases z), fun z => (by cases z)⟩
  | con w n =>
    cases M with
    | pol ms => exact ⟨fun z => (by cases z), fun z => (by cases z)⟩
    | con v m =>
      show (decide (w = v) && decide (n = m)) = true ↔ _
      rw [Bool.and_eq_true, decide_eq_true_eq, decide_eq_true_eq]
      exact ⟨fun ⟨h1, h2⟩ => by rw [h1, h2], fun z => by injection z with a b; exact ⟨a, b⟩⟩
def laysB : List Lay → List Lay → Bool
  | [], [] => true
  | L :: Ls, M :: Ms => layB L M && laysB Ls Ms
  | _, _ => false
theorem laysB_iff : ∀ {Ls Ms : List Lay}, laysB Ls Ms = true ↔ Ls = Ms
  | [], [] => ⟨fun _ => rfl, fun _ => rfl⟩
  | [], _ :: _ => ⟨fun z => (by cases z), fun z => (by cases z)⟩
  | _ :: _, [] => ⟨fun z => (by cases z), fun z => (by cases z)⟩
  | L :: Ls, M :: Ms => by
    show (layB L M && laysB Ls Ms) = true ↔ _
    rw [Bool.and_eq_true, layB_iff, laysB_iff]
    exact ⟨fun ⟨h1, h2⟩ => by rw [h1, h2], fun z => by injection z with a b; exact ⟨a, b⟩⟩
theorem eqv_dat (L M : Lay) : PyData.eqv L.dat M.dat = layB L M := by
  cases L with
  | pol ns =>
    cases M with
    | pol ms =>
      show PyData.eqv (dInts ns) (dInts ms) = decide (ns = ms)
      exact eqv_ints ns ms
    | con w n =>
      show PyData.eqv (.list _) (.tuple _) = false
      simp [PyData.eqv]
  | con w n =>
    cases M with
    | pol ms =>
      show PyData.eqv (.tuple _) (.list _) = false
      simp [PyData.eqv]
    | con v m =>
      show PyData.eqv (.tuple [.int w, .int n]) (.tuple [.int v, .int m]) = (decide (w = v) && decide (n = m))
      simp only [PyData.eqv, PyData.eqvAll]
      by_cases h1 : w = v <;> by_cases h2 : n = m <;> simp [h1, h2]
theorem eqv_lays : ∀ (Ls Ms : List Lay), PyData.eqv (.list (Ls.map Lay.dat)) (.list (Ms.map Lay.dat)) = laysB Ls Ms := by
  have key : ∀ (Ls Ms : List Lay), PyData.eqvAll (Ls.map Lay.dat) (Ms.map Lay.dat) = laysB Ls Ms := by
    intro Ls
    induction Ls with
    | nil => intro Ms; cases Ms <;> simp [PyData.eqvAll, laysB]
    | cons L Ls ih =>
      intro Ms
      cases Ms with
      | nil => simp [PyData.eqvAll, laysB]
      | cons M Ms => simp only [List.map_cons, PyData.eqvAll, eqv_dat, ih Ms, laysB]
  intro Ls Ms
  simp only [PyData.eqv]
  exact key Ls Ms
theorem shaped_lays (Ls : List Lay) : SeqAt.shaped (.list (Ls.map Lay.dat)) = true := by
  have key : ∀ Ls : List Lay, PyData.canLayAll0 (Ls.map Lay.dat) = true ∧ PyData.depthAll (Ls.map Lay.dat) ≤ 2 := by
    intro Ls
    induction Ls with
    | nil => exact ⟨by simp [PyData.canLayAll0], by simp [PyData.depthAll]⟩
    | cons L Ls ih =>
      have h : L.dat.canLay0 = true ∧ L.dat.depth ≤ 2 := by
        cases L with
        | pol ns =>
          have := depth_ints ns
          exact ⟨by simp [Lay.dat, dInts, PyData.canLay0, canLay_ints ns], by simp only [Lay.dat, dInts, PyData.depth]; omega⟩
        | con w n => exact ⟨by simp [Lay.dat, PyData.canLay0, PyData.canLayAll0], by simp [Lay.dat, PyData.depth, PyData.depthAll]⟩
      refine ⟨by simp [PyData.canLayAll0, h.1, ih.1], ?_⟩
      simp only [List.map_cons, PyData.depthAll]
      omega
  obtain ⟨h1, h2⟩ := key Ls
  unfold SeqAt.shaped
  rw [Bool.and_eq_true]
  refine ⟨?_, decide_eq_true ?_⟩
  · simpa [PyData.canLay0] using h1
  · simp only [PyData.depth]
    omega
/-! ## layers beside their values -/
def LaysP (H : Hp) (ps : List (V × Lay)) : Prop := ∀ p ∈ ps, LayAt H p.1 p.2
theorem nest_pairs {H : Hp} {q : Addr} {Ls : List Lay} (h : NestAt H q Ls) : ∃ ps : List (V × Lay), H q = some (.lst (ps.map Prod.fst)) ∧ Ls = ps.map Prod.snd ∧ LaysP H ps := by
  obtain ⟨vs, h1, h2, h3⟩ := h
  refine ⟨vs.zip Ls, ?_, ?_, fun p hp => ?_⟩
  · rw [List.map_fst_zip (by omega)]
    exact h1
  · rw [List.map_snd_zip (by omega)]
  · obtain ⟨i, hi, e⟩ := List.getElem_of_mem hp
    rw [List.getElem_zip] at e
    subst e
    rw [List.length_zip] at hi
    exact h3 i _ _ (List.getElem?_eq_getElem (by omega)) (List.getElem?_eq_getElem (by omega))
theorem pairs_nest {H : Hp} {q : Addr} {ps : List (V × Lay)} (h : H q = some (.lst (ps.map Prod.fst))) (hp : LaysP H ps) : NestAt H q (ps.map Prod.snd) := by
  refine ⟨_, h, by rw [List.length_map, List.length_map], fun i v L a b => ?_⟩
  rw [List.getElem?_map] at a b
  cases e : ps[i]? with
  | none => rw [e] at a; cases a
  | some p =>
    rw [e] at a b
    cases a
    cases b
    exact hp p (List.mem_of_getElem? e)
theorem LaysP.same {H H' : Hp} {ps : List (V × Lay)} (h : LaysP H ps) (e : Same H H') : LaysP H' ps := fun p hp => (h p hp).same e
theorem cut_to (xs : List V) (n : Nat) : cutV xs (some (n : Int)) none = xs.drop n := by
  unfold cutV
  rw [HT.sIx_none, show HT.sIx xs.length 0 (some (n : Int)) = min n xs.length from HT.sIx_nat xs.length _ n]
  by_cases h : n ≤ xs.length
  · rw [Nat.min_eq_left h]
    exact List.take_of_length_le (by rw [List.length_drop]; omega)
  · rw [Nat.min_eq_right (by omega), List.drop_eq_nil_of_le (Nat.le_refl _), List.drop_eq_nil_of_le (by omega)]
    exact List.take_nil
theorem LaysP.ne {H G : Hp} {a r : Addr} {ps : List (V × Lay)} (h : LaysP (hid a a H) ps) (f : H r = none) : ∀ p ∈ ps, ∀ x, p.1 = V.ref x → x ≠ r := fun p hp x e z => by
  have := h p hp
  have key : ∃ o, hid a a H x = some o := by
    revert this
    cases p.2 with
    | pol ns => intro ⟨y, h1, h2⟩; rw [e] at h1; cases h1; exact ⟨_, h2⟩
    | con w n => intro ⟨y, h1, h2⟩; rw [e] at h1; cases h1; exact ⟨_, h2⟩
  obtain ⟨o, ho⟩ := key
  have := (hid_get ho).1
  rw [z, f] at this
  cases this
theorem flat_one {ns : List Int} (h : (Lay.pol ns).ok = true) : flatL [.pol ns] = ns := by
  rw [flatL_cons fun L hL => by rw [List.mem_singleton.mp hL]; exact h]
  exact nestL_nil _
theorem flat_nn {Ls : List Lay} (h : ∀ L ∈ Ls, L.ok = true) : (Lay.pol (flatL Ls)).ok = true := by
  rw [Lay.ok_pol, List.all_eq_true]
  have key : ∀ Ls : List Lay, (∀ L ∈ Ls, L.ok = true) → ∀ x ∈ flatL Ls, 0 ≤ x := by
    intro Ls
    induction Ls with
    | nil => intro _ x hx; cases hx
    | cons L Ls ih =>
      intro h x hx
      rw [flatL_cons h] at hx
      rcases nestL_mem hx with z | z
      · have ho := h L List.mem_cons_self
        cases L with
        | pol ns =>
          rw [Lay.ok_pol, List.all_eq_true] at ho
          exact of_decide_eq_true (ho x z)
        | con w n =>
          rw [Lay.ok_con, Bool.and_eq_true] at ho
          rw [(List.mem_replicate.mp (show x ∈ List.replicate (n - 1).toNat w from z)).2]
          exact of_decide_eq_true ho.1
      · exact ih (fun M hM => h M (List.mem_cons_of_mem _ hM)) x z
  exact fun x hx => decide_eq_true (key Ls h x hx)
theorem nf_snoc {acc : List Lay} {L : Lay} (h : NF acc) (hL : L.nf) (hn : ∀ A w n v m, acc = A ++ [.con w n] → L = .con v m → w ≠ v) : NF (acc ++ [L]) := by
  rcases push_cases acc L with ⟨A, w, n, m, rfl, rfl, _⟩ | ⟨e, _⟩
  · exact absurd rfl (hn A w n w m rfl rfl)
  · rw [← e]
    exact (push_ok h hL).1
def Small (ps : List (V × Lay)) : Prop := ∀ x ∈ ps, x.2.cnt ≤ 29 ∧ ∀ w n, x.2 = .con w n → n ≤ 12
end Rn


namespace Rn
open PySem PySem.Spec PyProof.Rows L2
/-! ## the text -/
def topS (i : Nat) : Stmt := PySem.Challenge.pw_retrynest_k12_whole_one_form_for_all_way.main.body.getD i (.Pass ⟨0, 0, 0, 0⟩)
abbrev s_first_negative : Stmt := topS 4
abbrev s_is_valid_layer : Stmt := topS 5
abbrev s_check_nesting : Stmt := topS 6
abbrev s_repeats : Stmt := topS 8
abbrev s_is_inner_number : Stmt := topS 9
abbrev s_smallest_inner_number : Stmt := topS 11
abbrev s_list_parts : Stmt := topS 12
abbrev s_layer_parts : Stmt := topS 13
abbrev s_same_constant : Stmt := topS 14
abbrev s_merged : Stmt := topS 15
abbrev s_normal_form : Stmt := topS 16
abbrev s_same_policy : Stmt := topS 17
abbrev s_law_rng : Stmt := topS 19
abbrev s_law_draw : Stmt := topS 20
abbrev s_law_wait : Stmt := topS 21
abbrev s_law_flat : Stmt := topS 22
abbrev s_law_block : Stmt := topS 23
abbrev s_law_form : Stmt := topS 24
abbrev s_law_factors : Stmt := topS 25
abbrev s_law_written : Stmt := topS 26
abbrev s_law_long_right : Stmt := topS 27
abbrev s_law_merged : Stmt := topS 28
abbrev s_law : Stmt := topS 29
theorem sc_first_negative : FnScope ["waits", "index", "wait"] ["waits"] (defScope s_first_negative) := ⟨rfl, rfl, rfl, by decide +kernel, rfl, by decide +kernel, by decide +kernel⟩
theorem sc_is_valid_layer : FnScope ["layer", "wait", "count"] ["layer"] (defScope s_is_valid_layer) := ⟨rfl, rfl, rfl, by decide +kernel, rfl, by decide +kernel, by decide +kernel⟩
theorem sc_check_nesting : FnScope ["nesting", "index", "layer"] ["nesting"] (defScope s_check_nesting) := ⟨rfl, rfl, rfl, by decide +kernel, rfl, by decide +kernel, by decide +kernel⟩
theorem sc_repeats : FnScope ["waits", "number", "block", "start"] ["waits", "number"] (defScope s_repeats) := ⟨rfl, rfl, rfl, by decide +kernel, rfl, by decide +kernel, by decide +kernel⟩
theorem sc_is_inner_number : FnScope ["waits", "number"] ["waits", "number"] (defScope s_is_inner_number) := ⟨rfl, rfl, rfl, by decide +kernel, rfl, by decide +kernel, by decide +kernel⟩
theorem sc_smallest_inner_number : FnScope ["waits", "count", "number"] ["waits"] (defScope s_smallest_inner_number) := ⟨rfl, rfl, rfl, by decide +kernel, rfl, by decide +kernel, by decide +kernel⟩
theorem sc_list_parts : FnScope ["waits", "parts", "rest", "number", "part"] ["waits"] (defScope s_list_parts) := ⟨rfl, rfl, rfl, by decide +kernel, rfl, by decide +kernel, by decide +kernel⟩
theorem sc_layer_parts : FnScope ["layer"] ["layer"] (defScope s_layer_parts) := ⟨rfl, rfl, rfl, by decide +kernel, rfl, by decide +kernel, by decide +kernel⟩
theorem sc_same_constant : FnScope ["first", "second"] ["first", "second"] (defScope s_same_constant) := ⟨rfl, rfl, rfl, by decide +kernel, rfl, by decide +kernel, by decide +kernel⟩
theorem sc_merged : FnScope ["layers", "found", "layer", "wait", "count"] ["layers"] (defScope s_merged) := ⟨rfl, rfl, rfl, by decide +kernel, rfl, by decide +kernel, by decide +kernel⟩
theorem sc_normal_form : FnScope ["nesting", "layer", "part"] ["nesting"] (defScope s_normal_form) := ⟨rfl, rfl, rfl, by decide +kernel, rfl, by decide +kernel, by decide +kernel⟩
theorem sc_same_policy : FnScope ["first", "second"] ["first", "second"] (defScope s_same_policy) := ⟨rfl, rfl, rfl, by decide +kernel, rfl, by decide +kernel, by decide +kernel⟩
theorem sc_law_rng : FnScope ["script", "digits", "seed", "cell", "size"] ["script"] (defScope s_law_rng) := ⟨rfl, rfl, rfl, by decide +kernel, rfl, by decide +kernel, by decide +kernel⟩
theorem sc_law_draw : FnScope ["rng", "limit", "found", "mixed"] ["rng", "limit"] (defScope s_law_draw) := ⟨rfl, rfl, rfl, by decide +kernel, rfl, by decide +kernel, by decide +kernel⟩
theorem sc_law_wait : FnScope ["rng", "kinds_here"] ["rng", "kinds_here"] (defScope s_law_wait) := ⟨rfl, rfl, rfl, by decide +kernel, rfl, by decide +kernel, by decide +kernel⟩
theorem sc_law_flat : FnScope ["layers", "size", "layer", "found", "place", "many"] ["layers"] (defScope s_law_flat) := ⟨rfl, rfl, rfl, by decide +kernel, rfl, by decide +kernel, by decide +kernel⟩
theorem sc_law_block : FnScope ["rng", "found", "turn"] ["rng"] (defScope s_law_block) := ⟨rfl, rfl, rfl, by decide +kernel, rfl, by decide +kernel, by decide +kernel⟩
theorem sc_law_form : FnScope ["rng", "most", "found", "turn", "block"] ["rng", "most"] (defScope s_law_form) := ⟨rfl, rfl, rfl, by decide +kernel, rfl, by decide +kernel, by decide +kernel⟩
theorem sc_law_factors : FnScope ["rng", "size", "left", "found", "prime"] ["rng", "size"] (defScope s_law_factors) := ⟨rfl, rfl, rfl, by decide +kernel, rfl, by decide +kernel, by decide +kernel⟩
theorem sc_law_written : FnScope ["rng", "form", "found", "block", "parts", "part", "size"] ["rng", "form"] (defScope s_law_written) := ⟨rfl, rfl, rfl, by decide +kernel, rfl, by decide +kernel, by decide +kernel⟩
theorem sc_law_long_right : FnScope ["rng", "row", "form", "layers", "turn"] ["rng"] (defScope s_law_long_right) := ⟨rfl, rfl, rfl, by decide +kernel, rfl, by decide +kernel, by decide +kernel⟩
theorem sc_law_merged : FnScope ["rng", "layers", "found", "turn", "at", "row"] ["rng", "layers"] (defScope s_law_merged) := ⟨rfl, rfl, rfl, by decide +kernel, rfl, by decide +kernel, by decide +kernel⟩
theorem sc_law : FnScope ["script", "rng", "lap", "form", "other", "ways", "layers", "turn"] ["script"] (defScope s_law) := ⟨rfl, rfl, rfl, by decide +kernel, rfl, by decide +kernel, by decide +kernel⟩
/-! ## what the top has written -/
structure Txt (K : PySem.W.Frag) (mg : Str → Option Value) where
  f_first_negative : Addr
  d_first_negative : FuncData
  F_first_negative : Fun K "first_negative" "first_negative" s_first_negative f_first_negative d_first_negative
  g_first_negative : mg "first_negative" = some (.ref f_first_negative)
  b_first_negative : Binds K d_first_negative ["waits"] []
  f_is_valid_layer : Addr
  d_is_valid_layer : FuncData
  F_is_valid_layer : Fun K "is_valid_layer" "is_valid_layer" s_is_valid_layer f_is_valid_layer d_is_valid_layer
  g_is_valid_layer : mg "is_valid_layer" = some (.ref f_is_valid_layer)
  b_is_valid_layer : Binds K d_is_valid_layer ["layer"] []
  f_check_nesting : Addr
  d_check_nesting : FuncData
  F_check_nesting : Fun K "check_nesting" "check_nesting" s_check_nesting f_check_nesting d_check_nesting
  g_check_nesting : mg "check_nesting" = some (.ref f_check_nesting)
  b_check_nesting : Binds K d_check_nesting ["nesting"] []
  f_repeats : Addr
  d_repeats : FuncData
  F_repeats : Fun K "repeats" "repeats" s_repeats f_repeats d_repeats
  g_repeats : mg "repeats" = some (.ref f_repeats)
  b_repeats : Binds K d_repeats ["waits", "number"] []
  f_is_inner_number : Addr
  d_is_inner_number : FuncData
  F_is_inner_number : Fun K "is_inner_number" "is_inner_number" s_is_inner_number f_is_inner_number d_is_inner_number
  g_is_inner_number : mg "is_inner_number" = some (.ref f_is_inner_number)
  b_is_inner_number : Binds K d_is_inner_number ["waits", "number"] []
  f_smallest_inner_number : Addr
  d_smallest_inner_number : FuncData
  F_smallest_inner_number : Fun K "smallest_inner_number" "smallest_inner_number" s_smallest_inner_number f_smallest_inner_number d_smallest_inner_number
  g_smallest_inner_number : mg "smallest_inner_number" = some (.ref f_smallest_inner_number)
  b_smallest_inner_number : Binds K d_smallest_inner_number ["waits"] []
  f_list_parts : Addr
  d_list_parts : FuncData
  F_list_parts : Fun K "list_parts" "list_parts" s_list_parts f_list_parts d_list_parts
  g_list_parts : mg "list_parts" = some (.ref f_list_parts)
  b_list_parts : Binds K d_list_parts ["waits"] []
  f_layer_parts : Addr
  d_layer_parts : FuncData
  F_layer_parts : Fun K "layer_parts" "layer_parts" s_layer_parts f_layer_parts d_layer_parts
  g_layer_parts : mg "layer_parts" = some (.ref f_layer_parts)
  b_layer_parts : Binds K d_layer_parts ["layer"] []
  f_same_constant : Addr
  d_same_constant : FuncData
  F_same_constant : Fun K "same_constant" "same_constant" s_same_constant f_same_constant d_same_constant
  g_same_constant : mg "same_constant" = some (.ref f_same_constant)
  b_same_constant : Binds K d_same_constant ["first", "second"] []
  f_merged : Addr
  d_merged : FuncData
  F_merged : Fun K "merged" "merged" s_merged f_merged d_merged
  g_merged : mg "merged" = some (.ref f_merged)
  b_merged : Binds K d_merged ["layers"] []
  f_normal_form : Addr
  d_normal_form : FuncData
  F_normal_form : Fun K "normal_form" "normal_form" s_normal_form f_normal_form d_normal_form
  g_normal_form : mg "normal_form" = some (.ref f_normal_form)
  b_normal_form : Binds K d_normal_form ["nesting"] []
  f_same_policy : Addr
  d_same_policy : FuncData
  F_same_policy : Fun K "same_policy" "same_policy" s_same_policy f_same_policy d_same_policy
  g_same_policy : mg "same_policy" = some (.ref f_same_policy)
  b_same_policy : Binds K d_same_policy ["first", "second"] []
  f_law_rng : Addr
  d_law_rng : FuncData
  F_law_rng : Fun K "_law_rng" "_law_rng" s_law_rng f_law_rng d_law_rng
  g_law_rng : mg "_law_rng" = some (.ref f_law_rng)
  b_law_rng : Binds K d_law_rng ["script"] []
  f_law_draw : Addr
  d_law_draw : FuncData
  F_law_draw : Fun K "_law_draw" "_law_draw" s_law_draw f_law_draw d_law_draw
  g_law_draw : mg "_law_draw" = some (.ref f_law_draw)
  b_law_draw : Binds K d_law_draw ["rng", "limit"] []
  f_law_wait : Addr
  d_law_wait : FuncData
  F_law_wait : Fun K "_law_wait" "_law_wait" s_law_wait f_law_wait d_law_wait
  g_law_wait : mg "_law_wait" = some (.ref f_law_wait)
  b_law_wait : Binds K d_law_wait ["rng", "kinds_here"] []
  f_law_flat : Addr
  d_law_flat : FuncData
  F_law_flat : Fun K "_law_flat" "_law_flat" s_law_flat f_law_flat d_law_flat
  g_law_flat : mg "_law_flat" = some (.ref f_law_flat)
  b_law_flat : Binds K d_law_flat ["layers"] []
  f_law_block : Addr
  d_law_block : FuncData
  F_law_block : Fun K "_law_block" "_law_block" s_law_block f_law_block d_law_block
  g_law_block : mg "_law_block" = some (.ref f_law_block)
  b_law_block : Binds K d_law_block ["rng"] []
  f_law_form : Addr
  d_law_form : FuncData
  F_law_form : Fun K "_law_form" "_law_form" s_law_form f_law_form d_law_form
  g_law_form : mg "_law_form" = some (.ref f_law_form)
  b_law_form : Binds K d_law_form ["rng", "most"] []
  f_law_factors : Addr
  d_law_factors : FuncData
  F_law_factors : Fun K "_law_factors" "_law_factors" s_law_factors f_law_factors d_law_factors
  g_law_factors : mg "_law_factors" = some (.ref f_law_factors)
  b_law_factors : Binds K d_law_factors ["rng", "size"] []
  f_law_written : Addr
  d_law_written : FuncData
  F_law_written : Fun K "_law_written" "_law_written" s_law_written f_law_written d_law_written
  g_law_written : mg "_law_written" = some (.ref f_law_written)
  b_law_written : Binds K d_law_written ["rng", "form"] []
  f_law_long_right : Addr
  d_law_long_right : FuncData
  F_law_long_right : Fun K "_law_long_right" "_law_long_right" s_law_long_right f_law_long_right d_law_long_right
  g_law_long_right : mg "_law_long_right" = some (.ref f_law_long_right)
  b_law_long_right : Binds K d_law_long_right ["rng"] []
  f_law_merged : Addr
  d_law_merged : FuncData
  F_law_merged : Fun K "_law_merged" "_law_merged" s_law_merged f_law_merged d_law_merged
  g_law_merged : mg "_law_merged" = some (.ref f_law_merged)
  b_law_merged : Binds K d_law_merged ["rng", "layers"] []
  f_law : Addr
  d_law : FuncData
  F_law : Fun K "law" "law" s_law f_law d_law
  g_law : mg "law" = some (.ref f_law)
  b_law : Binds K d_law ["script"] []
  m_abs : mg "abs" = none
  m_enumerate : mg "enumerate" = none
  m_isinstance : mg "isinstance" = none
  m_len : mg "len" = none
  m_list : mg "list" = none
  m_min : mg "min" = none
  m_range : mg "range" = none
  m_tuple : mg "tuple" = none
end Rn
namespace Rn
open PySem PySem.Spec PyProof.Rows L2
section
variable {P : Program} {w : World} {K : PySem.W.Frag} {mg : Str → Option Value} {base : Heap}
/-- where the first negative one stands -/
def negAt (ns : List Int) : V := match ns.findIdx? (fun x => decide (x < 0)) with
  | none => .non
  | some i => .int (i : Nat)
theorem negAt_none {ns : List Int} (h : ∀ x ∈ ns, 0 ≤ x) : negAt ns = .non := by
  unfold negAt
  rw [List.findIdx?_eq_none_iff.mpr fun x hx => decide_eq_false (by have := h x hx; omega)]
def sp_first_negative (K : PySem.W.Frag) : Sp := fun vs H Q _ => ∃ (a : Addr) (ns : List Int), vs = [.ref a] ∧ SqL K H a (ns.map V.int) ∧ ∀ H', Same H H' → Q (negAt ns) H'
theorem ok_first_negative (T : Txt K mg) : FnOk P w K mg base CX0 1 T.f_first_negative T.d_first_negative ["waits"] (sp_first_negative K) := by
  refine T.F_first_negative.ok sc_first_negative (fun vs H Q E h => ?_) (fun cdv A outer s H vs Q E hr h => ?_)
  · obtain ⟨a, ns, rfl, _⟩ := h
    rfl
  obtain ⟨a, ns, rfl, hS, q⟩ := h
  refine ⟨_, (pss_cons (ps_for PassesOwn.never rfl (pi_enum (by rfl) T.m_enumerate (pa_cons (pv 0) pa_nil)) (pg_tup rfl (pgs_cons (pg_name (i := 1) sc_first_negative.nd rfl (Or.inl rfl)) (pgs_cons (pg_name (i := 2) sc_first_negative.nd rfl (Or.inl rfl)) pgs_nil)))
      (pss_one (ps_if (pt_cmpR op_lt (pv 2) pe_int (nomark _))
      (pss_one (ps_ret (pv 1)))
      pss_nil)))
      (pss_one (ps_ret pe_non))), ?_⟩
  -- the walk
  refine ⟨.ref a, rfl, a, ns.map V.int, rfl, hS, for_enum (fun i σ H' => (∃ y1 y2, σ = [some (.ref a), y1, y2]) ∧ Same H H' ∧ ∀ j : Nat, j < i → ∀ x, ns[j]? = some x → 0 ≤ x)
    ⟨⟨none, none, rfl⟩, Same.refl H, fun j hj => absurd hj (Nat.not_lt_zero j)⟩ (fun i σ H' _ h => h.2.1.seq hS) (fun i x σ H' t hx h nt => ?_) (fun σ H' h => ?_)⟩
  · obtain ⟨⟨y1, y2, rfl⟩, sm, hn⟩ := h
    obtain ⟨n, hx', rfl⟩ : ∃ n, ns[i]? = some n ∧ x = .int n := by
      rw [List.getElem?_map] at hx
      cases e : ns[i]? with
      | none => rw [e] at hx; cases hx
      | some n => rw [e] at hx; exact ⟨n, rfl, (Option.some.inj hx).symm⟩
    refine ⟨t, _, rfl, sqt upd_same, rfl, _, _, rfl, _, _, rfl, rfl, ?_⟩
    -- if wait < 0
    refine ⟨_, rfl, _, _, rfl, rfl, _, rfl, ite2 (fun e => ?_) (fun e => ?_)⟩
    · have e' : n < 0 := of_decide_eq_true e
      refine ⟨_, rfl, ?_⟩
      have hf : negAt ns = .int (i : Nat) := by
        unfold negAt
        have hi : i < ns.length := (List.getElem?_eq_some_iff.mp hx').1
        have : ns.findIdx? (fun x => decide (x < 0)) = some i := by
          rw [List.findIdx?_eq_some_iff_getElem]
          refine ⟨hi, ?_, fun j hj => ?_⟩
          · rw [(List.getElem?_eq_some_iff.mp hx').2]
            exact decide_eq_true e'
          · have hjl : j < ns.length := by omega
            have := hn j hj _ (List.getElem?_eq_getElem hjl)
            simp only [decide_eq_true_eq]
            omega
        rw [this]
      have := q (upd H' t (.tup [.int (i : Nat), .int n])) (sm.trans (same_new nt))
      rw [hf] at this
      exact this
    · refine ⟨⟨_, _, rfl⟩, sm.trans (same_new nt), fun j hj x hz => ?_⟩
      by_cases ej : j = i
      · subst ej
        rw [hx'] at hz
        cases hz
        have := of_decide_eq_false (Bool.eq_false_iff.mpr e)
        omega
      · exact hn j (by omega) x hz
  · obtain ⟨⟨y1, y2, rfl⟩, sm, hn⟩ := h
    have e : negAt ns = .non := negAt_none fun x hx => by
      obtain ⟨j, hj, e⟩ := List.getElem_of_mem hx
      exact hn j (by simpa using hj) x (by rw [← e]; exact List.getElem?_eq_getElem hj)
    have := q H' sm
    rw [e] at this
    exact this

end
end Rn
namespace Rn
open PySem PySem.Spec PyProof.Rows L2
section
variable {P : Program} {w : World} {K : PySem.W.Frag} {mg : Str → Option Value} {base : Heap}
def sp_is_valid_layer (K : PySem.W.Frag) : Sp := fun vs H Q _ => ∃ (v : V) (L : Lay), vs = [v] ∧ LayAt H v L ∧ ∀ H', Same H H' → Q (.bl L.ok) H'
theorem negAt_iff (ns : List Int) : decide (negAt ns = .non) = ns.all fun x => decide (0 ≤ x) := by
  by_cases h : ∀ x ∈ ns, 0 ≤ x
  · rw [negAt_none h, decide_eq_true rfl]
    symm
    rw [List.all_eq_true]
    exact fun x hx => decide_eq_true (h x hx)
  · have e : ns.all (fun x => decide (0 ≤ x)) = false := by
      rw [Bool.eq_false_iff]
      intro z
      rw [List.all_eq_true] at z
      exact h fun x hx => of_decide_eq_true (z x hx)
    rw [e]
    unfold negAt
    cases q : ns.findIdx? (fun x => decide (x < 0)) with
    | none =>
      rw [List.findIdx?_eq_none_iff] at q
      exact absurd (fun x hx => by have := of_decide_eq_false (q x hx); omega) h
    | some i => exact decide_eq_false fun z => nomatch z
theorem ok_is_valid_layer (T : Txt K mg) : FnOk P w K mg base CX0 2 T.f_is_valid_layer T.d_is_valid_layer ["layer"] (sp_is_valid_layer K) := by
  have G_first_negative := ok_first_negative (P := P) (w := w) (base := base) T
  refine T.F_is_valid_layer.ok sc_is_valid_layer (fun vs H Q E h => ?_) (fun cdv A outer s H vs Q E hr h => ?_)
  · obtain ⟨v, L, rfl, _⟩ := h
    rfl
  obtain ⟨v, L, rfl, hL, q⟩ := h
  refine ⟨_, (pss_cons (ps_if (pt_val (pe_callB call_isi (by rfl) T.m_isinstance (by decide +kernel) (pa_cons (pv 0) (pa_cons (pe_bltn (v := .ty "tuple") (by rfl) T.m_tuple (by decide +kernel) rfl) pa_nil))))
      (pss_cons (ps_asg (pv 0) (pg_tup rfl (pgs_cons (pg_name (i := 1) sc_is_valid_layer.nd rfl (Or.inl rfl)) (pgs_cons (pg_name (i := 2) sc_is_valid_layer.nd rfl (Or.inl rfl)) pgs_nil))))
      (pss_one (ps_ret (pe_and (pe_cmpR op_ge (pv 1) pe_int (nomark _)) (pe_one (pe_cmpR op_ge (pv 2) pe_int (nomark _)))))))
      pss_nil)
      (pss_one (ps_ret (pe_cmpR op_isN (pe_call G_first_negative hr (by rfl) T.g_first_negative T.F_first_negative.kp T.b_first_negative .nil pass0 (pa_cons (pv 0) pa_nil)) pe_non (nomark _))))), ?_⟩
  cases L with
  | con wt n =>
    obtain ⟨p, rfl, hp⟩ := hL
    refine ⟨_, rfl, _, _, _, _, true, rfl, .ty "tuple", .base (.tup hp), kit_ty (by decide +kernel), true, rfl, iteT ?_⟩
    refine ⟨_, rfl, p, _, rfl, sqt hp, rfl, _, _, rfl, _, _, rfl, rfl, ?_⟩
    refine ⟨_, rfl, _, _, rfl, rfl, _, rfl, ite2 (fun e => ?_) (fun e => ?_)⟩
    · refine ⟨_, rfl, _, _, rfl, rfl, ?_⟩
      have := q H (Same.refl H)
      rw [Lay.ok_con, e, Bool.true_and] at this
      exact this
    · have := q H (Same.refl H)
      rw [Lay.ok_con, Bool.eq_false_iff.mpr e, Bool.false_and] at this
      exact this
  | pol ns =>
    obtain ⟨p, rfl, hp⟩ := hL
    refine ⟨_, rfl, _, _, _, _, false, rfl, .ty "tuple", .base (.lst hp), kit_ty (by decide +kernel), false, rfl, iteF ?_⟩
    refine ⟨_, rfl, p, ns, rfl, sql hp, fun H' sm => ⟨rfl, ?_⟩⟩
    have := q H' sm
    rw [Lay.ok_pol, ← negAt_iff] at this
    exact this

end
end Rn
namespace Rn
open PySem PySem.Spec PyProof.Rows L2
section
variable {P : Program} {w : World} {K : PySem.W.Frag} {mg : Str → Option Value} {base : Heap}
def sp_check_nesting (K : PySem.W.Frag) : Sp := fun vs H Q _ => ∃ (a : Addr) (Ls : List Lay), vs = [.ref a] ∧ NestAt H a Ls ∧ (∀ L ∈ Ls, L.ok = true) ∧ ∀ H', Same H H' → Q .non H'
theorem ok_check_nesting (T : Txt K mg) : FnOk P w K mg base CX0 3 T.f_check_nesting T.d_check_nesting ["nesting"] (sp_check_nesting K) := by
  have G_is_valid_layer := ok_is_valid_layer (P := P) (w := w) (base := base) T
  refine T.F_check_nesting.ok sc_check_nesting (fun vs H Q E h => ?_) (fun cdv A outer s H vs Q E hr h => ?_)
  · obtain ⟨a, Ls, rfl, _⟩ := h
    rfl
  obtain ⟨a, Ls, rfl, hN, hok, q⟩ := h
  refine ⟨_, (pss_one (ps_for PassesOwn.never rfl (pi_enum (by rfl) T.m_enumerate (pa_cons (pv 0) pa_nil)) (pg_tup rfl (pgs_cons (pg_name (i := 1) sc_check_nesting.nd rfl (Or.inl rfl)) (pgs_cons (pg_name (i := 2) sc_check_nesting.nd rfl (Or.inl rfl)) pgs_nil)))
      (pss_one (ps_if (pt_not (pt_val (pe_call G_is_valid_layer hr (by rfl) T.g_is_valid_layer T.F_is_valid_layer.kp T.b_is_valid_layer .nil pass0 (pa_cons (pv 2) pa_nil))))
      (pss_one ps_never)
      pss_nil)))), ?_⟩
  obtain ⟨vs, hv, hl, hat⟩ := id hN
  refine ⟨.ref a, rfl, a, vs, rfl, sql hv, for_enum (fun i σ H' => (∃ y1 y2, σ = [some (.ref a), y1, y2]) ∧ Same H H') ⟨⟨none, none, rfl⟩, Same.refl H⟩ (fun i σ H' _ h => h.2.seq (sql hv)) (fun i x σ H' t hx h nt => ?_) (fun σ H' h => q H' h.2)⟩
  obtain ⟨⟨y1, y2, rfl⟩, sm⟩ := h
  have hi : i < Ls.length := by
    rw [← hl]
    exact (List.getElem?_eq_some_iff.mp hx).1
  have sm1 := sm.trans (same_new (o := .tup [.int (i : Nat), x]) nt)
  refine ⟨t, _, rfl, sqt upd_same, rfl, _, _, rfl, _, _, rfl, rfl, ?_⟩
  refine ⟨_, rfl, x, Ls[i], rfl, (hat i x _ hx (List.getElem?_eq_getElem hi)).same sm1, fun H2 s2 => ?_⟩
  rw [hok _ (List.getElem_mem hi)]
  exact ⟨true, rfl, iteF ⟨⟨_, _, rfl⟩, sm1.trans s2⟩⟩

end
end Rn
namespace Rn
open PySem PySem.Spec PyProof.Rows L2
section
variable {P : Program} {w : World} {K : PySem.W.Frag} {mg : Str → Option Value} {base : Heap}
def sp_repeats (K : PySem.W.Frag) : Sp := fun vs H Q _ => ∃ (a : Addr) (ws : List Int) (n : Nat), vs = [.ref a, .int (n : Int)] ∧ SqL K H a (ws.map V.int) ∧ 1 ≤ n ∧ n ∣ ws.length + 1 ∧ ws.length ≤ 20000 ∧ ∀ H', Same H H' → Q (.bl (repB ws n)) H'
theorem ok_repeats (T : Txt K mg) : FnOk P w K mg base CX0 1 T.f_repeats T.d_repeats ["waits", "number"] (sp_repeats K) := by
  refine T.F_repeats.ok sc_repeats (fun vs H Q E h => ?_) (fun cdv A outer s H vs Q E hr h => ?_)
  · obtain ⟨a, ws, n, rfl, _⟩ := h
    rfl
  obtain ⟨a, ws, n, rfl, hS, hn, hd, hl, q⟩ := h
  obtain ⟨k, hk⟩ := hd
  have hk1 : 1 ≤ k := by
    cases k with
    | zero => rw [Nat.mul_zero] at hk; omega
    | succ k => omega
  have hkd : (ws.length + 1) / n = k := by rw [hk, Nat.mul_div_cancel_left _ (by omega)]
  refine ⟨_, (pss_cons (ps_set (i := 2) sc_repeats.nd rfl (Or.inl rfl) (pe_slice sl_list (pv 0) po_none (po_some (pe_op op_sub (pv 1) pe_int))))
      (pss_cons (ps_for PassesOwn.never rfl (pi_range3 rfl T.m_range (pa_cons (pv 1) (pa_cons (pe_op op_add (pe_callB call_len_seq (by rfl) T.m_len PySem.boot_len (pa_cons (pv 0) pa_nil)) pe_int) (pa_cons (pv 1) pa_nil)))) (pg_name (i := 3) sc_repeats.nd rfl (Or.inl rfl))
      (pss_one (ps_if (pt_cmpR (op_neD hr.units) (pe_slice sl_list (pv 0) (po_some (pv 3)) (po_some (pe_op op_sub (pe_op op_add (pv 3) (pv 1)) pe_int))) (pv 2) (nomark _))
      (pss_one (ps_ret pe_bl))
      pss_nil)))
      (pss_one (ps_ret pe_bl)))), ?_⟩
  refine ⟨_, rfl, _, rfl, _, _, rfl, rfl, _, rfl, a, _, rfl, hS, fun b hb => ?_⟩
  rw [show (n : Int) - 1 = ((n - 1 : Nat) : Int) by omega, cut_n, show (ws.map V.int).take (n - 1) = (blk ws n 0).map V.int by rw [← blk_map, Nat.zero_mul, List.drop_zero]]
  have sb := same_new (o := .lst ((blk ws n 0).map V.int)) hb
  have eb := upd_same (H := H) (a := b) (o := .lst ((blk ws n 0).map V.int))
  generalize upd H b (.lst ((blk ws n 0).map V.int)) = H0 at *
  refine ⟨_, rfl, _, rfl, a, _, rfl, .inl (sb.seq hS), _, _, rfl, rfl, _, rfl, _, _, _, _, rfl, ?_, for_rangeC (n := k - 1) (fun i σ H' => (∃ y, σ = [some (.ref a), some (.int (n : Int)), some (.ref b), y]) ∧ Same H0 H' ∧ ∀ c, c ≤ i → blk ws n c = blk ws n 0)
    ⟨⟨none, rfl⟩, Same.refl _, fun c hc => by rw [Nat.le_zero.mp hc]⟩ (fun i σ H' hi h => ?_) (fun σ H' h => ?_)⟩
  · rw [show (((ws.map V.int).length : Int) + 1) = ((n * k : Nat) : Int) by rw [List.length_map]; omega]
    exact RgC.blocks hn hk1 (by omega)
  · obtain ⟨⟨y, rfl⟩, sm, hc⟩ := h
    refine ⟨_, rfl, _, rfl, _, rfl, _, rfl, _, rfl, _, _, rfl, rfl, _, _, rfl, rfl, _, rfl, a, _, rfl, (sb.trans sm).seq hS, fun p hp => ?_⟩
    have em : (n : Int) + (i : Int) * (n : Int) = (((i + 1) * n : Nat) : Int) := by
      rw [Nat.succ_mul]
      omega
    have ec : cutV (ws.map V.int) (some ((n : Int) + (i : Int) * (n : Int))) (some ((n : Int) + (i : Int) * (n : Int) + (n : Int) - 1)) = (blk ws n (i + 1)).map V.int := by
      rw [em, show (((i + 1) * n : Nat) : Int) + (n : Int) - 1 = (((i + 1) * n + (n - 1) : Nat) : Int) by omega, cut_mid, show (i + 1) * n + (n - 1) - (i + 1) * n = n - 1 by omega, blk_map]
    rw [ec]
    have sp := same_new (o := .lst ((blk ws n (i + 1)).map V.int)) hp
    have ep := upd_same (H := H') (a := p) (o := .lst ((blk ws n (i + 1)).map V.int))
    generalize upd H' p (.lst ((blk ws n (i + 1)).map V.int)) = H1 at *
    refine ⟨_, rfl, dInts (blk ws n (i + 1)), dInts (blk ws n 0), dp_ints (sql ep), dp_ints (sql ((sm.trans sp) _ _ eb)), shaped_ints _, shaped_ints _, _, rfl, ?_⟩
    rw [eqv_ints]
    refine ite2 (fun e => ?_) (fun e => ?_)
    · have e' : blk ws n (i + 1) ≠ blk ws n 0 := by simpa using e
      have := q H1 ((sb.trans sm).trans sp)
      rw [repB_not (c := i + 1) (by omega) e'] at this
      exact this
    · have e' : blk ws n (i + 1) = blk ws n 0 := by simpa using e
      refine ⟨⟨_, rfl⟩, sm.trans sp, fun c hc' => ?_⟩
      by_cases z : c = i + 1
      · rw [z]; exact e'
      · exact hc c (by omega)
  · obtain ⟨_, sm, hc⟩ := h
    have := q H' (sb.trans sm)
    rw [repB_of fun c hc' => hc c (by omega)] at this
    exact this

end
end Rn
namespace Rn
open PySem PySem.Spec PyProof.Rows L2
section
variable {P : Program} {w : World} {K : PySem.W.Frag} {mg : Str → Option Value} {base : Heap}
def sp_is_inner_number (K : PySem.W.Frag) : Sp := fun vs H Q _ => ∃ (a : Addr) (ws : List Int) (n : Int), vs = [.ref a, .int n] ∧ SqL K H a (ws.map V.int) ∧ ws.length ≤ 20000 ∧ ∀ H', Same H H' → Q (.bl (innB ws n)) H'
theorem ok_is_inner_number (T : Txt K mg) : FnOk P w K mg base CX0 2 T.f_is_inner_number T.d_is_inner_number ["waits", "number"] (sp_is_inner_number K) := by
  have G_repeats := ok_repeats (P := P) (w := w) (base := base) T
  refine T.F_is_inner_number.ok sc_is_inner_number (fun vs H Q E h => ?_) (fun cdv A outer s H vs Q E hr h => ?_)
  · obtain ⟨a, ws, n, rfl, _⟩ := h
    rfl
  obtain ⟨a, ws, n, rfl, hS, hl, q⟩ := h
  refine ⟨_, (pss_cons (ps_if (PW.pt (pw_or (pt_cmpR op_lt (pv 1) pe_int (nomark _)) (pw_or1 (pt_cmpR op_ne (pe_op op_mod (pe_op op_add (pe_callB call_len_seq (by rfl) T.m_len PySem.boot_len (pa_cons (pv 0) pa_nil)) pe_int) (pv 1)) pe_int (nomark _)))))
      (pss_one (ps_ret pe_bl))
      pss_nil)
      (pss_one (ps_ret (pe_call G_repeats hr (by rfl) T.g_repeats T.F_repeats.kp T.b_repeats .nil pass0 (pa_cons (pv 0) (pa_cons (pv 1) pa_nil)))))), ?_⟩
  refine ⟨_, rfl, _, _, rfl, rfl, _, rfl, ite2 (fun e => ?_) (fun e => ?_)⟩
  · have e' : n < 1 := of_decide_eq_true e
    have := q H (Same.refl _)
    unfold innB at this
    rw [decide_eq_false (show ¬ (1 : Int) ≤ n by omega)] at this
    exact iteT this
  · have e' : 1 ≤ n := by
      have := of_decide_eq_false (Bool.eq_false_iff.mpr e)
      omega
    refine ⟨_, rfl, a, _, rfl, .inl hS, _, _, rfl, rfl, _, rfl, _, _, rfl, rfl, by omega, rfl, _, rfl, ite2 (fun d => ?_) (fun d => ?_)⟩
    · have d' : ¬ ((ws.length : Int) + 1) % n = 0 := by simpa [List.length_map] using d
      have := q H (Same.refl _)
      unfold innB at this
      rw [decide_eq_false d', Bool.and_false, Bool.false_and] at this
      exact this
    · have d' : ((ws.length : Int) + 1) % n = 0 := by simpa [List.length_map] using d
      obtain ⟨m, rfl⟩ : ∃ m : Nat, n = (m : Int) := ⟨n.toNat, by omega⟩
      refine ⟨_, rfl, _, rfl, a, ws, m, rfl, hS, by omega, ?_, hl, fun H1 s1 => ?_⟩
      · rw [← Int.natCast_dvd_natCast, Int.dvd_iff_emod_eq_zero]
        exact d'
      · have := q H1 s1
        unfold innB at this
        rw [decide_eq_true e', decide_eq_true d', Int.toNat_natCast] at this
        exact this

end
end Rn
namespace Rn
open PySem PySem.Spec PyProof.Rows L2
section
variable {P : Program} {w : World} {K : PySem.W.Frag} {mg : Str → Option Value} {base : Heap}
def sp_smallest_inner_number (K : PySem.W.Frag) : Sp := fun vs H Q _ => ∃ (a : Addr) (ws : List Int), vs = [.ref a] ∧ SqL K H a (ws.map V.int) ∧ ws.length ≤ 20000 ∧ ∀ H' m, Same H H' → Sm ws m → Q (.int (m : Nat)) H'
theorem ok_smallest_inner_number (T : Txt K mg) : FnOk P w K mg base CX0 3 T.f_smallest_inner_number T.d_smallest_inner_number ["waits"] (sp_smallest_inner_number K) := by
  have G_is_inner_number := (ok_is_inner_number (P := P) (w := w) (base := base) T)
  refine T.F_smallest_inner_number.ok sc_smallest_inner_number (fun vs H Q E h => ?_) (fun cdv A outer s H vs Q E hr h => ?_)
  · obtain ⟨a, ws, rfl, _⟩ := h
    rfl
  obtain ⟨a, ws, rfl, hS, hl, q⟩ := h
  refine ⟨_, (pss_cons (ps_set (i := 1) sc_smallest_inner_number.nd rfl (Or.inl rfl) (pe_op op_add (pe_callB call_len_seq (by rfl) T.m_len PySem.boot_len (pa_cons (pv 0) pa_nil)) pe_int))
      (pss_cons (ps_for PassesOwn.never rfl (pi_range2 (by rfl) T.m_range (pa_cons pe_int (pa_cons (pe_op op_add (pe_op op_fdivW (pv 1) pe_int) pe_int) pa_nil))) (pg_name (i := 2) sc_smallest_inner_number.nd rfl (Or.inl rfl))
      (pss_one (ps_if (pt_val (pe_call G_is_inner_number hr (by rfl) T.g_is_inner_number T.F_is_inner_number.kp T.b_is_inner_number .nil pass0 (pa_cons (pv 0) (pa_cons (pv 2) pa_nil))))
      (pss_one (ps_ret (pv 2)))
      pss_nil)))
      (pss_one (ps_ret (pv 1))))), ?_⟩
  refine ⟨_, rfl, a, _, rfl, .inl hS, _, _, rfl, rfl, ?_⟩
  refine ⟨_, rfl, _, _, rfl, rfl, wide_div (b := 4) (by decide) (by decide) (by decide) (by decide), _, _, rfl, rfl, _, _, rfl, ⟨by decide, by decide, by rw [List.length_map]; omega, by rw [List.length_map]; omega⟩, ?_⟩
  rw [List.length_map]
  refine for_range (lo := 2) (n := ((((ws.length : Int) + 1) / 2 + 1 - 2).toNat)) (fun i σ H' => (∃ y2, σ = [some (.ref a), some (.int ((ws.length : Int) + 1)), y2]) ∧ Same H H' ∧ ∀ j : Nat, 2 ≤ j → j < 2 + i → innB ws (j : Int) = false)
    ⟨⟨none, rfl⟩, Same.refl _, fun j j1 j2 => absurd j1 (by omega)⟩ (fun i σ H2 hi h => ?_) (fun σ H2 h => ?_)
  · obtain ⟨⟨y2, rfl⟩, sm, hn⟩ := h
    have hi' : (2 + i) * 2 ≤ ws.length + 1 := by omega
    refine ⟨_, rfl, _, rfl, a, ws, 2 + (i : Int), rfl, sm.seq hS, hl, fun H3 s3 => ⟨_, rfl, ite2 (fun e => ?_) (fun e => ?_)⟩⟩
    · refine ⟨_, rfl, ?_⟩
      have := q H3 (2 + i) (sm.trans s3) ⟨.inr ⟨by omega, by omega, e⟩, hn⟩
      exact this
    · refine ⟨⟨_, rfl⟩, sm.trans s3, fun j j1 j2 => ?_⟩
      by_cases z : j = 2 + i
      · rw [z]
        simpa using e
      · exact hn j j1 (by omega)
  · obtain ⟨⟨y2, rfl⟩, sm, hn⟩ := h
    refine ⟨_, rfl, q H2 (ws.length + 1) sm ⟨.inl rfl, fun j j1 j2 => ?_⟩⟩
    by_cases c : j < 2 + ((((ws.length : Int) + 1) / 2 + 1 - 2).toNat)
    · exact hn j j1 c
    · refine inn_false fun hp => ?_
      obtain ⟨k, hk⟩ := hp.2.1
      have : k < 2 := by
        apply Nat.lt_of_not_le
        intro z
        have : j * 2 ≤ j * k := Nat.mul_le_mul_left _ z
        omega
      have h0 : k = 0 ∨ k = 1 := by omega
      rcases h0 with rfl | rfl
      · omega
      · omega

end
end Rn
namespace Rn
open PySem PySem.Spec PyProof.Rows L2
section
variable {P : Program} {w : World} {K : PySem.W.Frag} {mg : Str → Option Value} {base : Heap}
def sp_list_parts (K : PySem.W.Frag) : Sp := fun vs H Q _ => ∃ (a : Addr) (ws : List Int), vs = [.ref a] ∧ H a = some (.lst (ws.map V.int)) ∧ ws.length ≤ 20000 ∧
  ∀ H' r us Ms, Same H H' → H r = none → NestV H H' r us Ms → Ms.length ≤ ws.length → Parts ws Ms → Q (.ref r) H'
theorem ok_list_parts (T : Txt K mg) : FnOk P w K mg base CX0 4 T.f_list_parts T.d_list_parts ["waits"] (sp_list_parts K) := by
  have G_smallest_inner_number := (ok_smallest_inner_number (P := P) (w := w) (base := base) T)
  refine T.F_list_parts.ok sc_list_parts (fun vs H Q E h => ?_) (fun cdv A outer s H vs Q E hr h => ?_)
  · obtain ⟨a, ws, rfl, _⟩ := h
    rfl
  obtain ⟨a, ws, rfl, ha, hl, q⟩ := h
  refine ⟨_, (pss_cons (ps_set (i := 1) sc_list_parts.nd rfl (Or.inl rfl) (pe_lst pa_nil))
      (pss_cons (ps_set (i := 2) sc_list_parts.nd rfl (Or.inl rfl) (pv 0))
      (pss_cons (ps_while PassesOwn.never (pt_truth (pv 2) (by intro _; rfl))
      (pss_cons (ps_set (i := 3) sc_list_parts.nd rfl (Or.inl rfl) (pe_call G_smallest_inner_number hr (by rfl) T.g_smallest_inner_number T.F_smallest_inner_number.kp T.b_smallest_inner_number .nil pass0 (pa_cons (pv 2) pa_nil)))
      (pss_cons (ps_set (i := 4) sc_list_parts.nd rfl (Or.inl rfl) (pe_slice sl_list (pv 2) po_none (po_some (pe_op op_sub (pv 3) pe_int))))
      (Evl.pss_cut (ps_if (pt_cmpR op_eq (pe_bm PySem.F.plainAttrs_list PySem.F.slot_list_count PySem.F.type_list_count mt_lcount (pv 4) (pa_cons (pe_ix ix_list (pv 4) pe_int (fun _ _ => rfl)) pa_nil)) (pe_callB call_len_seq (by rfl) T.m_len PySem.boot_len (pa_cons (pv 4) pa_nil)) (nomark _))
      (pss_one (ps_expr (pe_bm PySem.F.plainAttrs_list PySem.F.slot_list_append PySem.F.type_list_append mt_append (pv 1) (pa_cons (pe_tup (pa_cons (pe_ix ix_list (pv 4) pe_int (fun _ _ => rfl)) (pa_cons (pv 3) pa_nil))) pa_nil))))
      (pss_one (ps_expr (pe_bm PySem.F.plainAttrs_list PySem.F.slot_list_append PySem.F.type_list_append mt_append (pv 1) (pa_cons (pv 4) pa_nil)))))
      (pss_one (ps_set (i := 2) sc_list_parts.nd rfl (Or.inl rfl) (pe_skip (pv 2) (pe_op op_sub (pv 3) pe_int) (pv 3))))))))
      (pss_one (ps_ret (pv 1)))))), ?_⟩
  refine ⟨Nat.zero_le _, fun r hr' => ?_⟩
  have ar : a ≠ r := ne_of_none ha hr'
  refine ⟨.ref a, rfl, ?_⟩
  change gName 2 _ _ _ _
  unfold gName
  change Ends.nx _ _ _
  dsimp only
  unfold tSeq
  dsimp only
  change tWhile _ _ _ _ _
  refine while_by (fun σ H' => ∃ (b : Addr) (rs : List Int) (us : List V) (Ms : List Lay) (y3 y4 : Option V), σ = [some (.ref a), some (.ref r), some (.ref b), y3, y4] ∧ Same H H' ∧ b ≠ r ∧ H' b = some (.lst (rs.map V.int)) ∧ NestV H H' r us Ms ∧ Ms.length + rs.length ≤ ws.length ∧ ∀ Ns, Parts rs Ns → Parts ws (Ms ++ Ns))
    (fun σ H' => match σ with | [_, _, some (.ref b), _, _] => (match H' b with | some (.lst xs) => xs.length | _ => 0) | _ => 0)
    ⟨a, ws, [], [], none, none, rfl, same_new hr', ar, by rw [upd_ne ar]; exact ha, NestV.nil upd_same, by simp, fun Ns h => h⟩ (fun σ H' h => ?_) (fun σ H' Q Q' hq hc => ?_)
  · obtain ⟨b, rs, us, Ms, y3, y4, rfl, sm, br, hb, hv, hlen, hp⟩ := h
    refine ⟨_, rfl, _, .inl ⟨_, sql hb, rfl⟩, ?_⟩
    have lus : us.length ≤ ws.length := by rw [hv.2.1]; omega
    cases rs with
    | nil =>
      refine iteF ⟨_, rfl, ?_⟩
      have := hp [] .nil
      rw [List.append_nil] at this
      exact q H' r us Ms sm hr' hv (by omega) this
    | cons r0 rs' =>
      refine iteT ?_
      generalize hrs : r0 :: rs' = rs at *
      have h0 : 0 < rs.length := by rw [← hrs]; exact Nat.succ_pos _
      refine ⟨_, rfl, b, rs, rfl, sql hb, by omega, fun H1 n s1 hm => ?_⟩
      obtain ⟨n2, hpc⟩ := sm_per hm h0
      have l0 := per_low0 hpc
      have hb1 := s1 _ _ hb
      refine ⟨_, rfl, _, rfl, _, _, rfl, rfl, _, rfl, b, _, rfl, sql hb1, fun p hp' => ?_⟩
      rw [show (n : Int) - 1 = ((n - 1 : Nat) : Int) by omega, cut_n, show (rs.map V.int).take (n - 1) = (blk rs n 0).map V.int by rw [← blk_map, Nat.zero_mul, List.drop_zero]]
      have sp := s1.trans (same_new (o := .lst ((blk rs n 0).map V.int)) hp')
      have ep := upd_same (H := H1) (a := p) (o := .lst ((blk rs n 0).map V.int))
      generalize upd H1 p (.lst ((blk rs n 0).map V.int)) = H2 at *
      have hv2 := hv.same sp
      have hb2 := sp _ _ hb
      have fp : H p = none := (sm.trans s1).free hp'
      have pr : p ≠ r := fun z => by
        have := s1 _ _ hv.1
        rw [← z, hp'] at this
        cases this
      have pb : p ≠ b := fun z => by rw [z, hb1] at hp'; cases hp'
      have sm2 := sm.trans sp
      have pos : 0 < (blk rs n 0).length := by omega
      have g0 : atI ((blk rs n 0).map V.int) 0 = some (.int (blk rs n 0)[0]) := atI_nat (j := 0) (map_get (List.getElem?_eq_getElem pos))
      have w0m := List.getElem_mem pos
      generalize (blk rs n 0)[0] = w0 at *
      obtain ⟨kq, hkq⟩ := hpc.2.1
      have kq1 : 1 ≤ kq := by
        rcases Nat.eq_zero_or_pos kq with z | z
        · rw [z, Nat.mul_zero] at hkq; omega
        · exact z
      have nkq : n ≤ n * kq := Nat.le_mul_of_pos_right _ (by omega)
      have lhi := high_len hpc.1 kq1 hkq
      have lhi2 : (pks rs (n - 1) n).length + 1 ≤ rs.length := by
        have : 2 * kq ≤ n * kq := Nat.mul_le_mul_right _ n2
        omega
      refine ⟨fun σ' H3 => ∃ us3 L, σ' = [some (.ref a), some (.ref r), some (.ref b), some (.int (n : Int)), some (.ref p)] ∧ Same H H3 ∧ H3 b = some (.lst (rs.map V.int)) ∧ NestV H H3 r us3 (Ms ++ [L]) ∧ ∀ Ns, Parts (pks rs (n - 1) n) Ns → Parts rs (L :: Ns), ?_, fun σ' H3 h3 => ?_⟩
      · refine ⟨_, rfl, .inl ⟨rfl, _, sql ep⟩, _, rfl, p, _, _, _, rfl, rfl, sql ep, g0, p, _, w0, rfl, rfl, sql ep, ?_⟩
        refine ⟨_, rfl, p, _, rfl, .inl (sql ep), rfl, _, rfl, ite2 (fun e => ?_) (fun e => ?_)⟩
        · have e' : (blk rs n 0).count w0 = (blk rs n 0).length := by
            have e1 := of_decide_eq_true e
            injection e1 with e1
            rw [List.length_map] at e1
            exact Int.ofNat.inj e1
          have e2 : blk rs n 0 = List.replicate (n - 1) w0 := List.eq_replicate_iff.mpr ⟨by omega, fun x hx => (List.count_eq_length.mp e' x hx).symm⟩
          refine ⟨_, rfl, .inl ⟨rfl, _, sql hv2.1⟩, _, rfl, p, _, _, _, rfl, rfl, sql ep, g0, _, rfl, size_le (by show 2 ≤ 100000; decide), fun t ht => ?_⟩
          have st := same_new (o := .tup [.int w0, .int (n : Int)]) ht
          have hv3 := hv2.same st
          have tr : t ≠ r := fun z => by rw [z, hv2.1] at ht; cases ht
          refine ⟨r, us, _, rfl, rfl, hv3.1, size_lt (by omega), us ++ [.ref t], .con w0 (n : Int), rfl, same_keep (sm2.trans st) hr', by rw [upd_ne br]; exact st _ _ hb2, hv3.push (L := .con w0 (n : Int)) ⟨t, rfl, upd_same⟩ tr (sm2.free ht), fun Ns h => .con h0 hm e2 h⟩
        · have e' : ¬ Flat1 (blk rs n 0) := fun ⟨w, hw⟩ => by
            apply e
            have ew : w0 = w := by
              rw [hw] at w0m
              exact (List.mem_replicate.mp w0m).2
            have : (blk rs n 0).count w0 = (blk rs n 0).length := List.count_eq_length.mpr fun x hx => by
              rw [hw] at hx
              rw [ew]
              exact (List.mem_replicate.mp hx).2.symm
            rw [this, List.length_map]
            exact decide_eq_true rfl
          exact ⟨_, rfl, .inl ⟨rfl, _, sql hv2.1⟩, _, rfl, r, us, _, rfl, rfl, hv2.1, size_lt (by omega), us ++ [.ref p], .pol (blk rs n 0), rfl, same_keep sm2 hr', by rw [upd_ne br]; exact hb2, hv2.push (L := .pol (blk rs n 0)) (x := p) ⟨p, rfl, ep⟩ pr fp, fun Ns h => .pol h0 hm e' h⟩
      · obtain ⟨us3, L, rfl, sm3, hb3, hv3, hparts⟩ := h3
        refine ⟨_, rfl, _, rfl, _, _, rfl, rfl, _, rfl, _, rfl, _, rfl, n - 1, n, by rw [show (n : Int) - 1 = ((n - 1 : Nat) : Int) by omega], rfl, by omega, b, _, rfl, sql hb3, by rw [List.length_map]; omega, by rw [List.length_map]; omega, fun c hc => ?_⟩
        rw [pks_map]
        have sc := same_new (o := .lst ((pks rs (n - 1) n).map V.int)) hc
        have cr : c ≠ r := fun z => by rw [z, hv3.1] at hc; cases hc
        refine ⟨⟨c, pks rs (n - 1) n, us3, Ms ++ [L], _, _, rfl, sm3.trans sc, cr, upd_same, hv3.same sc, ?_, fun Ns h => ?_⟩, ?_⟩
        · rw [List.length_append]
          show Ms.length + 1 + _ ≤ _
          omega
        · rw [List.append_assoc]
          exact hp _ (hparts Ns h)
        · show (match (upd H3 c (.lst ((pks rs (n - 1) n).map V.int))) c with | some (.lst xs) => xs.length | _ => 0) < (match H' b with | some (.lst xs) => xs.length | _ => 0)
          rw [upd_same, hb]
          show ((pks rs (n - 1) n).map V.int).length < (rs.map V.int).length
          rw [List.length_map, List.length_map]
          omega
  · obtain ⟨v, e1, k, t, z⟩ := hc
    exact ⟨v, e1, k, t, hq _ _ z⟩

end
end Rn
namespace Rn
open PySem PySem.Spec PyProof.Rows L2
section
variable {P : Program} {w : World} {K : PySem.W.Frag} {mg : Str → Option Value} {base : Heap}
def sp_layer_parts (K : PySem.W.Frag) : Sp := fun vs H Q _ => ∃ (v : V) (L : Lay), vs = [v] ∧ LayAt H v L ∧ L.ok = true ∧ (∀ ns, L = .pol ns → ns.length ≤ 20000) ∧
  ∀ H' r us Ms, Same H H' → H r = none → NestV N0 H' r us Ms → Ms.length ≤ 20000 → (∀ M ∈ Ms, M.nf) → (∀ ns, Lay.pol ns ∈ Ms → ns.length ≤ 20000) → flatL Ms = L.waits → Q (.ref r) H'
theorem ok_layer_parts (T : Txt K mg) : FnOk P w K mg base CX0 5 T.f_layer_parts T.d_layer_parts ["layer"] (sp_layer_parts K) := by
  have G_list_parts := (ok_list_parts (P := P) (w := w) (base := base) T)
  refine T.F_layer_parts.ok sc_layer_parts (fun vs H Q E h => ?_) (fun cdv A outer s H vs Q E hr h => ?_)
  · obtain ⟨v, L, rfl, _⟩ := h
    rfl
  obtain ⟨v, L, rfl, hL, hok, hlen, q⟩ := h
  refine ⟨_, (pss_cons (ps_if (pt_val (pe_callB call_isi (by rfl) T.m_isinstance (by decide +kernel) (pa_cons (pv 0) (pa_cons (pe_bltn (v := .ty "tuple") (by rfl) T.m_tuple (by decide +kernel) rfl) pa_nil))))
      (pss_one (ps_ret (pe_ifExp (pt_cmpR op_gt (pe_ix ix_tup (pv 0) pe_int (fun _ _ => rfl)) pe_int (nomark _)) (pe_lst (pa_cons (pv 0) pa_nil)) (pe_lst pa_nil))))
      pss_nil)
      (pss_one (ps_ret (pe_call G_list_parts hr (by rfl) T.g_list_parts T.F_list_parts.kp T.b_list_parts .nil pass0 (pa_cons (pv 0) pa_nil))))), ?_⟩
  cases L with
  | con wt n =>
    obtain ⟨p, rfl, hp⟩ := hL
    have n1 : 1 ≤ n := LayAt.con_pos hok
    have w0 : 0 ≤ wt := by
      rw [Lay.ok_con, Bool.and_eq_true] at hok
      exact of_decide_eq_true hok.1
    refine ⟨_, rfl, _, _, _, _, true, rfl, .ty "tuple", .base (.tup hp), kit_ty (by decide +kernel), true, rfl, iteT ?_⟩
    refine ⟨_, rfl, p, _, 1, _, rfl, rfl, sqt hp, rfl, _, _, rfl, rfl, _, rfl, ite2 (fun e => ?_) (fun e => ?_)⟩
    · have e' : 1 < n := of_decide_eq_true e
      refine ⟨_, rfl, size_le (by show 1 ≤ 100000; decide), fun r hr' => ?_⟩
      have sr := same_new (o := .lst [.ref p]) hr'
      have pr : p ≠ r := fun z => by rw [z, hr'] at hp; cases hp
      have g : (Lay.con wt n).nf := ⟨w0, by omega⟩
      refine q _ r [.ref p] [.con wt n] sr hr' ⟨upd_same, rfl, fun i v L a b => ?_, fun x hx => ?_⟩ (by show 1 ≤ 20000; decide) (fun M hM => by rw [List.mem_singleton.mp hM]; exact g) (fun ns z => by cases List.mem_singleton.mp z) ?_
      · cases i with
        | zero => cases a; cases b; exact ⟨p, rfl, sr _ _ hp⟩
        | succ i => cases a
      · cases List.mem_singleton.mp hx
        exact ⟨pr, rfl⟩
      · rw [flatL_cons fun M hM => by rw [List.mem_singleton.mp hM]; exact g.ok]
        exact nestL_nil _
    · have e' : ¬ 1 < n := of_decide_eq_false (Bool.eq_false_iff.mpr e)
      refine ⟨Nat.zero_le _, fun r hr' => ?_⟩
      refine q _ r [] [] (same_new hr') hr' (NestV.nil upd_same) (Nat.zero_le _) (fun _ z => nomatch z) (fun _ z => nomatch z) ?_
      show [] = List.replicate (n - 1).toNat wt
      rw [show (n - 1).toNat = 0 by omega]
      rfl
  | pol ns =>
    obtain ⟨p, rfl, hp⟩ := hL
    refine ⟨_, rfl, _, _, _, _, false, rfl, .ty "tuple", .base (.lst hp), kit_ty (by decide +kernel), false, rfl, iteF ?_⟩
    have hnn : ∀ x ∈ ns, 0 ≤ x := fun x hx => by
      rw [Lay.ok_pol, List.all_eq_true] at hok
      exact of_decide_eq_true (hok x hx)
    refine ⟨_, rfl, p, ns, rfl, hp, hlen ns rfl, fun H' r us Ms sm fr hv hl hparts => ?_⟩
    obtain ⟨g1, g2⟩ := parts_ok hparts hnn
    have pl : ∀ ms, Lay.pol ms ∈ Ms → ms.length ≤ 20000 := fun ms hm => by
      have oks : ∀ M ∈ Ms, M.ok = true := fun M hM => (g1 M hM).ok
      have c := cnt_le oks hm
      have f := flatL_len _ Ms rfl oks
      rw [g2] at f
      have c2 : (Lay.pol ms).cnt = (ms.length : Int) + 1 := rfl
      have := hlen ns rfl
      omega
    exact q H' r us Ms sm fr ⟨hv.1, hv.2.1, hv.2.2.1, fun x hx => ⟨(hv.2.2.2 x hx).1, rfl⟩⟩ (by have := hlen ns rfl; omega) g1 pl g2

end
end Rn
namespace Rn
open PySem PySem.Spec PyProof.Rows L2
section
variable {P : Program} {w : World} {K : PySem.W.Frag} {mg : Str → Option Value} {base : Heap}
def sp_same_constant (K : PySem.W.Frag) : Sp := fun vs H Q _ => ∃ (u v : V) (L M : Lay), vs = [u, v] ∧ LayAt H u L ∧ LayAt H v M ∧ Q (.bl (sameC L M)) H
theorem ok_same_constant (T : Txt K mg) : FnOk P w K mg base CX0 1 T.f_same_constant T.d_same_constant ["first", "second"] (sp_same_constant K) := by
  refine T.F_same_constant.ok sc_same_constant (fun vs H Q E h => ?_) (fun cdv A outer s H vs Q E hr h => ?_)
  · obtain ⟨u, v, L, M, rfl, _⟩ := h
    rfl
  obtain ⟨u, v, L, M, rfl, hL, hM, q⟩ := h
  refine ⟨_, (pss_one (ps_ret (pe_and (pe_callB call_isi (by rfl) T.m_isinstance (by decide +kernel) (pa_cons (pv 0) (pa_cons (pe_bltn (v := .ty "tuple") (by rfl) T.m_tuple (by decide +kernel) rfl) pa_nil))) (pe_and (pe_callB call_isi (by rfl) T.m_isinstance (by decide +kernel) (pa_cons (pv 1) (pa_cons (pe_bltn (v := .ty "tuple") (by rfl) T.m_tuple (by decide +kernel) rfl) pa_nil))) (pe_one (pe_cmpR op_eq (pe_ix ix_tup (pv 0) pe_int (fun _ _ => rfl)) (pe_ix ix_tup (pv 1) pe_int (fun _ _ => rfl)) (nomark _))))))), ?_⟩
  cases L with
  | pol ns =>
    obtain ⟨p, rfl, hp⟩ := hL
    exact ⟨_, rfl, _, _, _, _, false, rfl, .ty "tuple", .base (.lst hp), kit_ty (by decide +kernel), false, rfl, iteF q⟩
  | con a n =>
    obtain ⟨p, rfl, hp⟩ := hL
    refine ⟨_, rfl, _, _, _, _, true, rfl, .ty "tuple", .base (.tup hp), kit_ty (by decide +kernel), true, rfl, iteT ?_⟩
    cases M with
    | pol ms =>
      obtain ⟨p2, rfl, hp2⟩ := hM
      exact ⟨_, rfl, _, _, _, _, false, rfl, .ty "tuple", .base (.lst hp2), kit_ty (by decide +kernel), false, rfl, iteF q⟩
    | con b m =>
      obtain ⟨p2, rfl, hp2⟩ := hM
      refine ⟨_, rfl, _, _, _, _, true, rfl, .ty "tuple", .base (.tup hp2), kit_ty (by decide +kernel), true, rfl, iteT ?_⟩
      refine ⟨_, rfl, p, _, 0, _, rfl, rfl, sqt hp, rfl, _, rfl, p2, _, 0, _, rfl, rfl, sqt hp2, rfl, rfl, ?_⟩
      have e : decide (V.int a = V.int b) = sameC (.con a n) (.con b m) := by
        show _ = decide (a = b)
        rw [Bool.eq_iff_iff, decide_eq_true_eq, decide_eq_true_eq]
        exact ⟨fun z => by injection z, fun z => by rw [z]⟩
      rw [e]
      exact q

end
end Rn
namespace Rn
open PySem PySem.Spec PyProof.Rows L2
section
variable {P : Program} {w : World} {K : PySem.W.Frag} {mg : Str → Option Value} {base : Heap}
theorem push_yes {A : List Lay} {w n m : Int} : pushL (A ++ [.con w n]) (.con w m) = A ++ [.con w (n * m)] := by
  rcases push_cases (A ++ [.con w n]) (.con w m) with ⟨A', w', n', m', e1, e2, e3⟩ | ⟨_, h⟩
  · obtain ⟨a1, a2⟩ := List.append_inj' e1 rfl
    cases a2
    cases e2
    rw [e3, a1]
  · exact absurd rfl (h A w n w m rfl rfl)
theorem push_no {acc : List Lay} {L : Lay} (h : ∀ A B, acc = A ++ [B] → sameC B L = false) : pushL acc L = acc ++ [L] := by
  rcases push_cases acc L with ⟨A, w, n, m, rfl, rfl, _⟩ | ⟨e, _⟩
  · have := h A (.con w n) rfl
    have e : sameC (.con w n) (.con w m) = true := decide_eq_true rfl
    rw [e] at this
    cases this
  · exact e
def sp_merged (K : PySem.W.Frag) : Sp := fun vs H Q _ => ∃ (a : Addr) (Ls : List Lay), vs = [.ref a] ∧ NestAt H a Ls ∧ (∀ L ∈ Ls, L.nf) ∧ Ls.length ≤ 90000 ∧ (attOf Ls).natAbs < 2 ^ 9000 ∧ (∀ ns, Lay.pol ns ∈ Ls → ns.length ≤ 20000) ∧
  ∀ H' r us, Same H H' → H r = none → NestV H H' r us (mergeL Ls) → Q (.ref r) H'
theorem ok_merged (T : Txt K mg) : FnOk P w K mg base CX0 2 T.f_merged T.d_merged ["layers"] (sp_merged K) := by
  have G_same_constant := (ok_same_constant (P := P) (w := w) (base := base) T)
  refine T.F_merged.ok sc_merged (fun vs H Q E h => ?_) (fun cdv A outer s H vs Q E hr h => ?_)
  · obtain ⟨a, Ls, rfl, _⟩ := h
    rfl
  obtain ⟨a, Ls, rfl, hN, hnf, hl9, hbig, hpl, q⟩ := h
  refine ⟨_, (pss_cons (ps_set (i := 1) sc_merged.nd rfl (Or.inl rfl) (pe_lst pa_nil))
      (pss_cons (ps_for PassesOwn.never rfl (pi_list (pv 0)) (pg_name (i := 2) sc_merged.nd rfl (Or.inl rfl))
      (pss_one (ps_if (PW.pt (pw_and (pt_truth (pv 1) (by intro _; rfl)) (pw_and1 (pt_val (pe_call G_same_constant hr (by rfl) T.g_same_constant T.F_same_constant.kp T.b_same_constant .nil pass0 (pa_cons (pe_ix ix_list (pv 1) (pe_un un_neg pe_int) (fun _ _ => rfl)) (pa_cons (pv 2) pa_nil)))))))
      (pss_cons (ps_asg (pe_ix ix_list (pv 1) (pe_un un_neg pe_int) (fun _ _ => rfl)) (pg_tup rfl (pgs_cons (pg_name (i := 3) sc_merged.nd rfl (Or.inl rfl)) (pgs_cons (pg_name (i := 4) sc_merged.nd rfl (Or.inl rfl)) pgs_nil))))
      (pss_one (ps_asg (pe_tup (pa_cons (pv 3) (pa_cons (pe_op op_mulW (pv 4) (pe_ix ix_tup (pv 2) pe_int (fun _ _ => rfl))) pa_nil))) (pg_sub (pv 1) (pe_un un_neg pe_int) set_list))))
      (pss_one (ps_if (pt_val (pe_callB call_isi (by rfl) T.m_isinstance (by decide +kernel) (pa_cons (pv 2) (pa_cons (pe_bltn (v := .ty "tuple") (by rfl) T.m_tuple (by decide +kernel) rfl) pa_nil))))
      (pss_one (ps_expr (pe_bm PySem.F.plainAttrs_list PySem.F.slot_list_append PySem.F.type_list_append mt_append (pv 1) (pa_cons (pe_tup (pa_cons (pe_ix ix_tup (pv 2) pe_int (fun _ _ => rfl)) (pa_cons (pe_ix ix_tup (pv 2) pe_int (fun _ _ => rfl)) pa_nil))) pa_nil))))
      (pss_one (ps_expr (pe_bm PySem.F.plainAttrs_list PySem.F.slot_list_append PySem.F.type_list_append mt_append (pv 1) (pa_cons (pe_callTy call_list_of (by rfl) T.m_list (by decide +kernel) (pa_cons (pv 2) pa_nil)) pa_nil)))))))))
      (pss_one (ps_ret (pv 1))))), ?_⟩
  obtain ⟨xs, hv0, hlx, hat⟩ := hN
  refine ⟨Nat.zero_le _, fun r hr' => ?_⟩
  have sr := same_new (o := .lst []) hr'
  have okA : ∀ L ∈ Ls, L.ok = true := fun L hL => (hnf L hL).ok
  refine ⟨_, rfl, a, rfl, ⟨_, sql (sr _ _ hv0)⟩, for_list (xs := xs) (fun i σ H' => ∃ us y2 y3 y4, σ = [some (.ref a), some (.ref r), y2, y3, y4] ∧ Same H H' ∧ NestV H H' r us (mergeL (Ls.take i)) ∧ us.length ≤ i)
    ⟨[], none, none, none, rfl, sr, NestV.nil upd_same, Nat.le_refl _⟩ (fun i σ H' _ h => by obtain ⟨_, _, _, _, _, sm, _⟩ := h; exact sql (sm _ _ hv0)) (fun i x σ H' hx h => ?_) (fun σ H' h => ?_)⟩
  · obtain ⟨us, y2, y3, y4, rfl, sm, hv, hus⟩ := h
    have hi : i < Ls.length := by
      rw [← hlx]
      exact (List.getElem?_eq_some_iff.mp hx).1
    have hi' := List.getElem?_eq_getElem hi
    have lay0 := hat i x _ hx hi'
    have tk : Ls.take (i + 1) = Ls.take i ++ [Ls[i]] := by rw [List.take_add_one, hi']; rfl
    have hmem := List.getElem_mem hi
    have gL := hnf _ hmem
    have mk : mergeL (Ls.take (i + 1)) = pushL (mergeL (Ls.take i)) Ls[i] := by
      unfold mergeL
      rw [tk, List.foldl_append]
      rfl
    have okT : ∀ L ∈ Ls.take i, L.nf := fun L hL => hnf L (List.mem_of_mem_take hL)
    obtain ⟨mN, mF⟩ := merge_ok okT
    have cl := cnt_le okA hmem
    have hpn := hpl
    have attm : attOf (mergeL (Ls.take i)) ≤ attOf Ls := by
      have h1 := flatL_len _ (mergeL (Ls.take i)) rfl mN.oks
      have h2 := flatL_len _ (Ls.take i) rfl fun L hL => (okT L hL).ok
      rw [mF] at h1
      have h3 := (attOf_part (Ls.take i) (Ls.drop i) (fun L hL => okA L (List.mem_of_mem_drop hL)) fun L hL => (okT L hL).ok).2
      rw [List.take_append_drop] at h3
      omega
    rw [mk]
    have lay := lay0.same sm
    have i9 : i < 90000 := by omega
    have hpi : ∀ ns, Ls[i] = .pol ns → ns.length ≤ 20000 := fun ns e => hpl ns (e ▸ hmem)
    generalize Ls[i] = L at *
    generalize mergeL (Ls.take i) = acc at *
    have put : pushL acc L = acc ++ [L] → (match L with
        | .con wt n => ∀ t, H' t = none → ∃ us2 z2 z3 z4, [some (V.ref a), some (.ref r), some x, y3, y4] = [some (.ref a), some (.ref r), z2, z3, z4] ∧ Same H (upd (upd H' t (.tup [.int wt, .int n])) r (.lst (us ++ [.ref t]))) ∧ NestV H (upd (upd H' t (.tup [.int wt, .int n])) r (.lst (us ++ [.ref t]))) r us2 (pushL acc L) ∧ us2.length ≤ i + 1
        | .pol ns => ∀ t, H' t = none → ∃ us2 z2 z3 z4, [some (V.ref a), some (.ref r), some x, y3, y4] = [some (.ref a), some (.ref r), z2, z3, z4] ∧ Same H (upd (upd H' t (.lst (ns.map V.int))) r (.lst (us ++ [.ref t]))) ∧ NestV H (upd (upd H' t (.lst (ns.map V.int))) r (.lst (us ++ [.ref t]))) r us2 (pushL acc L) ∧ us2.length ≤ i + 1) := fun e => by
      have key : ∀ t o, H' t = none → LayAt (upd H' t o) (.ref t) L → NestV H (upd (upd H' t o) r (.lst (us ++ [.ref t]))) r (us ++ [.ref t]) (acc ++ [L]) := fun t o ht hlay => by
        have tr : t ≠ r := fun z => by rw [z, hv.1] at ht; cases ht
        exact (hv.same (same_new ht)).push hlay tr (sm.free ht)
      have len : (us ++ [V.ref a]).length ≤ i + 1 := by rw [List.length_append]; exact Nat.succ_le_succ hus
      rw [e]
      cases L with
      | con wt n => exact fun t ht => ⟨us ++ [.ref t], some x, y3, y4, rfl, same_keep (sm.trans (same_new ht)) hr', key t _ ht ⟨t, rfl, upd_same⟩, by rw [List.length_append] at len ⊢; exact len⟩
      | pol ns => exact fun t ht => ⟨us ++ [.ref t], some x, y3, y4, rfl, same_keep (sm.trans (same_new ht)) hr', key t _ ht ⟨t, rfl, upd_same⟩, by rw [List.length_append] at len ⊢; exact len⟩
    refine ⟨_, rfl, _, .inl ⟨us, sql hv.1, rfl⟩, ?_⟩
    have lus : (us.length : Nat) < 90000 := by omega
    rcases List.eq_nil_or_concat us with e | ⟨vs, u, e⟩
    · subst e
      have acc0 : acc = [] := List.length_eq_zero_iff.mp hv.2.1.symm
      have hpush : pushL acc L = acc ++ [L] := push_no fun A B z => by rw [acc0] at z; exact absurd z (by simp)
      have put := put hpush
      refine iteF ?_
      cases L with
      | con wt n =>
        obtain ⟨p, rfl, hp⟩ := lay
        refine ⟨_, rfl, _, _, _, _, true, rfl, .ty "tuple", .base (.tup hp), kit_ty (by decide +kernel), true, rfl, iteT ?_⟩
        refine ⟨_, rfl, .inl ⟨rfl, _, sql hv.1⟩, _, rfl, p, _, 0, _, rfl, rfl, sqt hp, rfl, _, rfl, p, _, 1, _, rfl, rfl, sqt hp, rfl, size_le (by show 2 ≤ 100000; decide), fun t ht => ?_⟩
        exact ⟨r, _, _, rfl, rfl, same_new ht _ _ hv.1, size_lt (by show 0 < 100000; decide), put t ht⟩
      | pol ns =>
        obtain ⟨p, rfl, hp⟩ := lay
        refine ⟨_, rfl, _, _, _, _, false, rfl, .ty "tuple", .base (.lst hp), kit_ty (by decide +kernel), false, rfl, iteF ?_⟩
        refine ⟨_, rfl, .inl ⟨rfl, _, sql hv.1⟩, _, rfl, p, _, rfl, .inl (sql hp), fun t ht => ?_⟩
        exact ⟨r, _, _, rfl, rfl, same_new ht _ _ hv.1, size_lt (by show 0 < 100000; decide), put t ht⟩
    · rw [List.concat_eq_append] at e
      subst e
      obtain ⟨A, B, eAB⟩ : ∃ A B, acc = A ++ [B] := by
        rcases List.eq_nil_or_concat acc with z | ⟨A, B, z⟩
        · have := hv.2.1
          rw [z] at this
          simp at this
        · exact ⟨A, B, by rw [z, List.concat_eq_append]⟩
      subst eAB
      have lA : vs.length = A.length := by
        have := hv.2.1
        rw [List.length_append, List.length_append] at this
        exact Nat.succ.inj this
      have layB : LayAt H' u B := hv.2.2.1 vs.length u B (by rw [List.getElem?_append_right (Nat.le_refl _), Nat.sub_self]; rfl) (by rw [lA, List.getElem?_append_right (Nat.le_refl _), Nat.sub_self]; rfl)
      refine (if_pos (by simp)).mpr ?_
      refine ⟨_, rfl, _, rfl, r, _, _, u, rfl, rfl, sql hv.1, atI_last vs u, _, rfl, u, x, B, L, rfl, layB, lay, _, rfl, ?_⟩
      cases hc : sameC B L with
      | true =>
        refine iteT ?_
        cases B with
        | pol ns => cases L <;> cases hc
        | con wt n =>
          cases L with
          | pol ns => cases hc
          | con v m =>
            have ev : wt = v := of_decide_eq_true hc
            subst ev
            obtain ⟨pB, rfl, hpB⟩ := layB
            obtain ⟨p, rfl, hp⟩ := lay
            have hB := mN.1 (.con wt n) (List.mem_append_right _ List.mem_cons_self)
            have cB := cnt_le mN.oks (List.mem_append_right A (List.mem_cons_self (a := Lay.con wt n) (l := [])))
            have cB2 : (Lay.con wt n).cnt = n := rfl
            have cL2 : (Lay.con wt m).cnt = m := rfl
            have nB : 2 ≤ n := hB.2
            have mB : 2 ≤ m := gL.2
            have wm : CMulW n m := wide_mul (a := 9000) (b := 9000) (Nat.lt_of_le_of_lt (show n.natAbs ≤ (attOf Ls).natAbs by omega) hbig) (Nat.lt_of_le_of_lt (show m.natAbs ≤ (attOf Ls).natAbs by omega) hbig) (by decide) (by decide) (by decide)
            refine ⟨_, rfl, _, rfl, r, _, _, .ref pB, rfl, rfl, sql hv.1, atI_last vs _, pB, _, rfl, sqt hpB, rfl, _, _, rfl, _, _, rfl, rfl, ?_⟩
            refine ⟨_, rfl, _, rfl, _, rfl, p, _, 1, _, rfl, rfl, sqt hp, rfl, _, _, rfl, rfl, wm, size_le (by show 2 ≤ 100000; decide), fun t ht => ?_⟩
            have st := same_new (o := .tup [.int wt, .int (n * m)]) ht
            have tr : t ≠ r := fun z => by rw [z, hv.1] at ht; cases ht
            refine ⟨_, rfl, _, rfl, r, _, -1, (vs ++ [V.ref pB]).length - 1, rfl, rfl, st _ _ hv.1, ixN_last (by rw [List.length_append]; exact Nat.succ_pos _), ?_⟩
            have sw := (hv.same st).swap (C := .con wt (n * m)) ⟨t, rfl, upd_same⟩ tr (sm.free ht)
            rw [set_last]
            refine ⟨vs ++ [.ref t], _, _, _, rfl, same_keep (sm.trans st) hr', by rw [push_yes]; exact sw, ?_⟩
            rw [List.length_append] at hus ⊢
            exact Nat.le_succ_of_le hus
      | false =>
        have hpush : pushL (A ++ [B]) L = (A ++ [B]) ++ [L] := push_no fun A' B' z => by
          have := (List.append_inj' z rfl).2
          cases this
          exact hc
        have put := put hpush
        refine iteF ?_
        cases L with
        | con wt n =>
          obtain ⟨p, rfl, hp⟩ := lay
          refine ⟨_, rfl, _, _, _, _, true, rfl, .ty "tuple", .base (.tup hp), kit_ty (by decide +kernel), true, rfl, iteT ?_⟩
          refine ⟨_, rfl, .inl ⟨rfl, _, sql hv.1⟩, _, rfl, p, _, 0, _, rfl, rfl, sqt hp, rfl, _, rfl, p, _, 1, _, rfl, rfl, sqt hp, rfl, size_le (by show 2 ≤ 100000; decide), fun t ht => ?_⟩
          exact ⟨r, _, _, rfl, rfl, same_new ht _ _ hv.1, size_lt (by omega), put t ht⟩
        | pol ns =>
          obtain ⟨p, rfl, hp⟩ := lay
          refine ⟨_, rfl, _, _, _, _, false, rfl, .ty "tuple", .base (.lst hp), kit_ty (by decide +kernel), false, rfl, iteF ?_⟩
          refine ⟨_, rfl, .inl ⟨rfl, _, sql hv.1⟩, _, rfl, p, _, rfl, .inl (sql hp), fun t ht => ?_⟩
          exact ⟨r, _, _, rfl, rfl, same_new ht _ _ hv.1, size_lt (by omega), put t ht⟩
  · obtain ⟨us, y2, y3, y4, rfl, sm, hv, hus⟩ := h
    rw [hlx, List.take_length] at hv
    exact ⟨_, rfl, q H' r us sm hr' hv⟩

end
end Rn
namespace Rn
open PySem PySem.Spec PyProof.Rows L2
section
variable {P : Program} {w : World} {K : PySem.W.Frag} {mg : Str → Option Value} {base : Heap}
theorem nf_pow : ∀ {ls : List Lay}, (∀ L ∈ ls, L.nf) → 2 ^ ls.length ≤ (flatL ls).length + 1
  | [], _ => by show 2 ^ 0 ≤ 0 + 1; decide
  | L :: ls, h => by
    rw [flatL_cons fun M hM => (h M hM).ok, nestL_len, List.length_cons, Nat.pow_succ, Nat.mul_comm]
    have h1 := nf_pow fun M hM => h M (List.mem_cons_of_mem _ hM)
    have h2 : 2 ≤ L.waits.length + 1 := (h L List.mem_cons_self).sz
    exact Nat.mul_le_mul h2 h1
theorem yes_then {σ : L2.St} {H : Hp} {A B : Hp → Prop} (h : A H) : tYes σ H (fun b H3 => if b = true then A H3 else B H3) := by
  change (if true = true then A H else B H)
  exact (if_pos rfl).mpr h
theorem nf_short {ls As Bs : List Lay} (h : ∀ L ∈ ls, L.nf) (e : flatL ls = flatL As) (hA : ∀ L ∈ As, L.ok = true) (hB : ∀ L ∈ Bs, L.ok = true) (hb : (attOf (As ++ Bs)).natAbs < 2 ^ 9000) : ls.length < 9000 := by
  have h1 := nf_pow h
  have h2 := flatL_len _ As rfl hA
  have h3 := (attOf_part As Bs hB hA).2
  rw [e] at h1
  have h4 : 2 ^ ls.length < 2 ^ 9000 := by
    generalize 2 ^ 9000 = B at *
    generalize 2 ^ ls.length = C at *
    omega
  exact (Nat.pow_lt_pow_iff_right (by decide)).mp h4
def sp_normal_form (K : PySem.W.Frag) : Sp := fun vs H Q _ => ∃ (a : Addr) (Ls : List Lay), vs = [.ref a] ∧ NestAt H a Ls ∧ (∀ L ∈ Ls, L.ok = true) ∧ Ls.length ≤ 20000 ∧ (attOf Ls).natAbs < 2 ^ 9000 ∧ (∀ ns, Lay.pol ns ∈ Ls → ns.length ≤ 20000) ∧
  ∀ H' r us Ms, Same H H' → H r = none → NestV H H' r us Ms → NF Ms → flatL Ms = flatL Ls → Q (.ref r) H'
theorem ok_normal_form (T : Txt K mg) : FnOk P w K mg base CX0 6 T.f_normal_form T.d_normal_form ["nesting"] (sp_normal_form K) := by
  have G_check_nesting := (ok_check_nesting (P := P) (w := w) (base := base) T).mono (by decide : 3 ≤ 5)
  have G_merged := (ok_merged (P := P) (w := w) (base := base) T).mono (by decide : 2 ≤ 5)
  have G_layer_parts := (ok_layer_parts (P := P) (w := w) (base := base) T)
  refine T.F_normal_form.ok sc_normal_form (fun vs H Q E h => ?_) (fun cdv A outer s H vs Q E hr h => ?_)
  · obtain ⟨a, Ls, rfl, _⟩ := h
    rfl
  obtain ⟨a, Ls, rfl, hN, hok, hl4, hbig, hpl, q⟩ := h
  refine ⟨_, (pss_cons (ps_expr (pe_call G_check_nesting hr (by rfl) T.g_check_nesting T.F_check_nesting.kp T.b_check_nesting .nil pass0 (pa_cons (pv 0) pa_nil)))
      (pss_one (ps_ret (pe_call G_merged hr (by rfl) T.g_merged T.F_merged.kp T.b_merged .nil pass0 (pa_cons (pe_lc2 (own := [("layer", 1), ("part", 2)]) (vs1 := [2]) (g := gName 1) (g1 := gName 2) (tt := tYes) (tt1 := tYes) rfl sc_normal_form.nd (pi_list (pv 0)) (blkOk_by (N := ["nesting", "layer", "part"]) (sc := defScope s_normal_form) (by decide +kernel)) (by decide) (fun _ _ _ _ _ => (pg_name (i := 1) sc_normal_form.nd rfl (Or.inl rfl))) (fun _ _ _ _ _ => pts_nil) (fun _ _ _ _ _ => (pi_listK (K := K) rfl (pe_call G_layer_parts hr (by rfl) T.g_layer_parts T.F_layer_parts.kp T.b_layer_parts .nil pass0 (pa_cons (pv 1) pa_nil)))) (fun _ _ _ _ _ => (pg_name (i := 2) sc_normal_form.nd rfl (Or.inl rfl))) (fun _ _ _ _ _ => pts_nil) (fun _ _ _ _ _ => (pv 2))) pa_nil))))), ?_⟩
  refine ⟨_, rfl, a, Ls, rfl, hN, hok, fun H1 s1 => ?_⟩
  obtain ⟨xs, hv0, hlx, hat⟩ := id (hN.same s1)
  refine ⟨_, rfl, a, rfl, ⟨_, sql hv0⟩, fun D hD => ?_⟩
  have hbig2 : ∀ i, (attOf (Ls.take i ++ Ls.drop i)).natAbs < 2 ^ 9000 := fun i => by rw [List.take_append_drop]; exact hbig
  have okT : ∀ i, ∀ L ∈ Ls.take i, L.ok = true := fun i L hL => hok L (List.mem_of_mem_take hL)
  have okD : ∀ i, ∀ L ∈ Ls.drop i, L.ok = true := fun i L hL => hok L (List.mem_of_mem_drop hL)
  refine out_list (vs := []) (σ := []) (xs := xs) (fun i H' => ∃ us Ms, Same H1 H' ∧ NestV N0 H' D us Ms ∧ (∀ M ∈ Ms, M.nf) ∧ (∀ ns, Lay.pol ns ∈ Ms → ns.length ≤ 20000) ∧ flatL Ms = flatL (Ls.take i))
    ⟨[], [], same_new hD, NestV.nil upd_same, (fun _ z => nomatch z), (fun _ z => nomatch z), rfl⟩ (fun i H' _ h => by obtain ⟨_, _, sm, _⟩ := h; exact sql (sm _ _ hv0)) (fun i x H2 hx h => ?_) (fun H2 h => ?_)
  · obtain ⟨us, Ms, sm, hv, hnf, hpm, hflat⟩ := h
    have hi : i < Ls.length := by
      rw [← hlx]
      exact (List.getElem?_eq_some_iff.mp hx).1
    have hi' := List.getElem?_eq_getElem hi
    have lay := (hat i x _ hx hi').same sm
    have hmem := List.getElem_mem hi
    have tk : Ls.take (i + 1) = Ls.take i ++ [Ls[i]] := by rw [List.take_add_one, hi']; rfl
    have lok := hok _ hmem
    have lpl : ∀ ns, Ls[i] = .pol ns → ns.length ≤ 20000 := fun ns e => hpl ns (e ▸ hmem)
    have msl := nf_short hnf hflat (okT i) (okD i) (hbig2 i)
    generalize Ls[i] = L at *
    refine ⟨rfl, yes_then ?_⟩
    refine ⟨_, rfl, x, L, rfl, lay, lok, lpl, fun H4 r us4 Ms4 sm4 fr hv4 hl4' hnf4 hpl4 hflat4 => ⟨r, rfl, ⟨_, sql hv4.1⟩, ?_⟩⟩
    have hv2 := hv.same sm4
    have rD : r ≠ D := fun z => by rw [z, hv.1] at fr; cases fr
    have lus : us.length < 9000 := by rw [hv.2.1]; exact msl
    have lus4 : us4.length ≤ 20000 := by rw [hv4.2.1]; exact hl4'
    refine in_list (ys := us4) (fun j H' => NestV N0 H' D (us ++ us4.take j) (Ms ++ Ms4.take j) ∧ ∀ b, b ≠ D → H' b = H4 b) ⟨by rw [List.take_zero, List.take_zero, List.append_nil, List.append_nil]; exact hv2, fun _ _ => rfl⟩ (fun j H' _ h => sql ((h.2 r rD).trans hv4.1)) (fun j y H' hy h => ?_) (fun H' h => ?_)
    · obtain ⟨hw, hkeep⟩ := h
      have hj : j < us4.length := (List.getElem?_eq_some_iff.mp hy).1
      have hj2 : j < Ms4.length := by rw [← hv4.2.1]; exact hj
      have hm := List.getElem?_eq_getElem hj2
      have lay4 := hv4.2.2.1 j y _ hy hm
      have nfj := hnf4 _ (List.getElem_mem hj2)
      have tu : us4.take (j + 1) = us4.take j ++ [y] := by rw [List.take_add_one, hy]; rfl
      have tm : Ms4.take (j + 1) = Ms4.take j ++ [Ms4[j]] := by rw [List.take_add_one, hm]; rfl
      generalize Ms4[j] = M at *
      obtain ⟨e, rfl⟩ := lay4.ref
      have eD : e ≠ D := fun z => by
        subst z
        have hD4 := hv2.1
        cases M with
        | con wt n =>
          obtain ⟨p, e1, e2⟩ := lay4
          cases e1
          rw [hD4] at e2
          cases e2
        | pol ns =>
          obtain ⟨p, e1, e2⟩ := lay4
          cases e1
          rw [hD4] at e2
          injection (Option.some.inj e2) with e3
          obtain ⟨n0, hn0⟩ : ∃ n0, ns[0]? = some n0 := ⟨ns[0]'nfj.1.1, List.getElem?_eq_getElem nfj.1.1⟩
          have e4 : us[0]? = some (.int n0) := by rw [e3, List.getElem?_map, hn0]; rfl
          obtain ⟨hl0, _⟩ := List.getElem?_eq_some_iff.mp e4
          have hl1 : 0 < Ms.length := by rw [← hv.2.1]; exact hl0
          obtain ⟨z, hz⟩ := (hv.2.2.1 0 _ _ e4 (List.getElem?_eq_getElem hl1)).ref
          cases hz
      have layn : LayAt H' (.ref e) M := by
        cases M with
        | con wt n =>
          obtain ⟨p, e1, e2⟩ := lay4
          cases e1
          exact ⟨_, rfl, (hkeep _ eD).trans e2⟩
        | pol ns =>
          obtain ⟨p, e1, e2⟩ := lay4
          cases e1
          exact ⟨_, rfl, (hkeep _ eD).trans e2⟩
      refine ⟨rfl, yes_then ⟨_, rfl, _, hw.1, size_lt (by rw [List.length_append, List.length_take]; omega), ?_, fun b hb => ?_⟩⟩
      · have := hw.push layn eD rfl
        rw [List.append_assoc, List.append_assoc, ← tu, ← tm] at this
        rw [List.append_assoc, ← tu]
        exact this
      · rw [upd_ne hb]
        exact hkeep b hb
    · obtain ⟨hw, hkeep⟩ := h
      rw [List.take_length, hv4.2.1, List.take_length] at hw
      refine ⟨us ++ us4, Ms ++ Ms4, fun b o hb => ?_, hw, fun M hM => ?_, fun ns hM => ?_, ?_⟩
      · have bD : b ≠ D := fun z => by rw [z, hD] at hb; cases hb
        rw [hkeep b bD]
        exact sm4 _ _ (sm _ _ hb)
      · rcases List.mem_append.mp hM with z | z
        · exact hnf M z
        · exact hnf4 M z
      · rcases List.mem_append.mp hM with z | z
        · exact hpm ns z
        · exact hpl4 ns z
      · rw [tk, flat_app (fun M hM => (hnf M hM).ok) (fun M hM => (hnf4 M hM).ok), flatF (okT i) _ lok, hflat, hflat4]
  · obtain ⟨us, Ms, sm, hv, hnf, hpm, hflat⟩ := h
    rw [hlx] at hflat
    have msl := nf_short hnf hflat (okT _) (okD _) (hbig2 _)
    have hflat2 := hflat
    rw [List.take_length] at hflat2
    obtain ⟨mN, mF⟩ := merge_ok hnf
    have e1 := flatL_len _ Ms rfl fun M hM => (hnf M hM).ok
    have e2 := flatL_len _ Ls rfl hok
    rw [hflat2] at e1
    exact ⟨D, Ms, rfl, hv.nest, hnf, by omega, by rw [← e1, e2]; exact hbig, hpm, fun H' r us' sm2 fr hv' => q H' r us' (mergeL Ms) (s1.trans (sm.trans sm2)) ((s1.trans sm).free fr) ⟨hv'.1, hv'.2.1, hv'.2.2.1, fun x hx => ⟨(hv'.2.2.2 x hx).1, (s1.trans sm).free (hv'.2.2.2 x hx).2⟩⟩ mN (mF.trans hflat2)⟩

end
end Rn
namespace Rn
open PySem PySem.Spec PyProof.Rows L2
section
variable {P : Program} {w : World} {K : PySem.W.Frag} {mg : Str → Option Value} {base : Heap}
def sp_same_policy (K : PySem.W.Frag) : Sp := fun vs H Q _ => ∃ (a b : Addr) (Ls Ms : List Lay), vs = [.ref a, .ref b] ∧ NestAt H a Ls ∧ NestAt H b Ms ∧ (∀ L ∈ Ls, L.ok = true) ∧ (∀ L ∈ Ms, L.ok = true) ∧ Ls.length ≤ 20000 ∧ Ms.length ≤ 20000 ∧ (attOf Ls).natAbs < 2 ^ 9000 ∧ (attOf Ms).natAbs < 2 ^ 9000 ∧
  (∀ ns, Lay.pol ns ∈ Ls → ns.length ≤ 20000) ∧ (∀ ns, Lay.pol ns ∈ Ms → ns.length ≤ 20000) ∧ ∀ H', Same H H' → Q (.bl (decide (flatL Ls = flatL Ms))) H'
theorem nf_eq {As Bs Ls Ms : List Lay} (hA : NF As) (hB : NF Bs) (e1 : flatL As = flatL Ls) (e2 : flatL Bs = flatL Ms) : laysB As Bs = decide (flatL Ls = flatL Ms) := by
  rw [Bool.eq_iff_iff, laysB_iff, decide_eq_true_eq, ← e1, ← e2]
  exact ⟨fun z => by rw [z], fun z => nf_unique hA hB z⟩
theorem ok_same_policy (T : Txt K mg) : FnOk P w K mg base CX0 7 T.f_same_policy T.d_same_policy ["first", "second"] (sp_same_policy K) := by
  have G_normal_form := (ok_normal_form (P := P) (w := w) (base := base) T)
  refine T.F_same_policy.ok sc_same_policy (fun vs H Q E h => ?_) (fun cdv A outer s H vs Q E hr h => ?_)
  · obtain ⟨a, b, Ls, Ms, rfl, _⟩ := h
    rfl
  obtain ⟨a, b, Ls, Ms, rfl, ha, hb, okL, okM, lL, lM, bL, bM, pL, pM, q⟩ := h
  refine ⟨_, (pss_one (ps_ret (pe_cmpR (op_eqD hr.units) (pe_call G_normal_form hr (by rfl) T.g_normal_form T.F_normal_form.kp T.b_normal_form .nil pass0 (pa_cons (pv 0) pa_nil)) (pe_call G_normal_form hr (by rfl) T.g_normal_form T.F_normal_form.kp T.b_normal_form .nil pass0 (pa_cons (pv 1) pa_nil)) (nomark _)))), ?_⟩
  refine ⟨_, rfl, a, Ls, rfl, ha, okL, lL, bL, pL, fun H1 t us As s1 f1 v1 n1 e1 => ?_⟩
  refine ⟨_, rfl, b, Ms, rfl, hb.same s1, okM, lM, bM, pM, fun H2 u vs Bs s2 f2 v2 n2 e2 => ?_⟩
  refine ⟨_, _, dp_nest (v1.nest.same s2), dp_nest v2.nest, shaped_lays _, shaped_lays _, ?_⟩
  rw [eqv_lays, nf_eq n1 n2 e1 e2]
  exact q H2 (s1.trans s2)

end
end Rn
namespace Rn
open PySem PySem.Spec PyProof.Rows L2
section
variable {P : Program} {w : World} {K : PySem.W.Frag} {mg : Str → Option Value} {base : Heap}
def sp_law_rng (K : PySem.W.Frag) : Sp := fun vs H Q _ => ∃ (a : Addr) (ns : List Int), vs = [.ref a] ∧ SqL K H a (ns.map V.int) ∧ ns.length ≤ 63 ∧ ∀ H' p, Same H H' → H p = none → Rng H' p 0 → Q (.ref p) H'
theorem ok_law_rng (T : Txt K mg) : FnOk P w K mg base CX0 1 T.f_law_rng T.d_law_rng ["script"] (sp_law_rng K) := by
  refine T.F_law_rng.ok sc_law_rng (fun vs H Q E h => ?_) (fun cdv A outer s H vs Q E hr h => ?_)
  · obtain ⟨a, ns, rfl, _⟩ := h
    rfl
  obtain ⟨a, ns, rfl, hS, hl, q⟩ := h
  refine ⟨_, (pss_cons (ps_asg (pe_tup (pa_cons pe_int (pa_cons pe_int pa_nil))) (pg_tup rfl (pgs_cons (pg_name (i := 1) sc_law_rng.nd rfl (Or.inl rfl)) (pgs_cons (pg_name (i := 2) sc_law_rng.nd rfl (Or.inl rfl)) pgs_nil))))
      (pss_cons (ps_for PassesOwn.never rfl (pi_list (pe_slice sl_list (pv 0) po_none (po_some pe_int))) (pg_name (i := 3) sc_law_rng.nd rfl (Or.inl rfl))
      (pss_cons (ps_set (i := 4) sc_law_rng.nd rfl (Or.inl rfl) (pe_callB call_abs (by rfl) T.m_abs (by decide +kernel) (pa_cons (pv 3) pa_nil)))
      (pss_cons (ps_if (pt_cmpR op_ge (pv 4) (pe_op op_pow pe_int pe_int) (nomark _))
      (pss_one (ps_set (i := 1) sc_law_rng.nd rfl (Or.inl rfl) (pe_op op_add (pe_op op_mulW (pv 1) (pe_op op_pow pe_int pe_int)) (pe_op op_mod (pv 4) (pe_op op_pow pe_int pe_int)))))
      pss_nil)
      (pss_one (ps_set (i := 2) sc_law_rng.nd rfl (Or.inl rfl) (pe_op op_mod (pe_op op_add (pe_op op_add (pe_op op_mul (pv 2) pe_int) (pe_op op_mod (pv 3) pe_int)) pe_int) pe_int))))))
      (pss_one (ps_ret (pe_lst (pa_cons (pv 1) (pa_cons (pv 2) (pa_cons pe_int pa_nil)))))))), ?_⟩
  refine ⟨size_le (by show 2 ≤ 100000; decide), fun b hb => ?_⟩
  have sb := same_new (o := .tup [.int 0, .int 88675123]) hb
  refine ⟨b, _, rfl, sqt upd_same, rfl, _, _, rfl, _, _, rfl, rfl, ?_⟩
  generalize upd H b (.tup [.int 0, .int 88675123]) = H0 at *
  refine ⟨_, rfl, 63, rfl, a, _, rfl, sb.seq hS, fun c hc => ?_⟩
  rw [show (63 : Int) = ((63 : Nat) : Int) from rfl, cut_n, List.take_of_length_le (by rw [List.length_map]; omega)]
  have ec := upd_same (H := H0) (a := c) (o := .lst (ns.map V.int))
  have sc := same_new (o := .lst (ns.map V.int)) hc
  generalize upd H0 c (.lst (ns.map V.int)) = H1 at *
  refine ⟨c, rfl, ⟨_, sql ec⟩, for_list (xs := ns.map V.int) (fun i σ H' => ∃ dg seed y3 y4, σ = [some (.ref a), some (.int dg), some (.int seed), y3, y4] ∧ 0 ≤ dg ∧ dg.natAbs < 2 ^ (200 * i + 1) ∧ 0 ≤ seed ∧ seed < 2305843009213693951 ∧ H' = H1)
    ⟨0, 88675123, none, none, rfl, by decide, by decide, by decide, by decide, rfl⟩ (fun i σ H' _ h => by obtain ⟨_, _, _, _, _, _, _, _, _, e⟩ := h; rw [e]; exact sql ec) (fun i x σ H' hx h => ?_) (fun σ H' h => ?_)⟩
  · obtain ⟨dg, seed, y3, y4, rfl, d0, d1, s0, s1, rfl⟩ := h
    have hi : i < 63 := by
      have := (List.getElem?_eq_some_iff.mp hx).1
      rw [List.length_map] at this
      omega
    obtain ⟨n, rfl⟩ : ∃ n, x = .int n := by
      rw [List.getElem?_map] at hx
      cases e : ns[i]? with
      | none => rw [e] at hx; cases hx
      | some n => rw [e] at hx; exact ⟨n, (Option.some.inj hx).symm⟩
    have q1 : (0 : Int) < 2305843009213693921 := by decide
    have q2 : (0 : Int) < 2305843009213693951 := by decide
    have p60 : (0 : Int) < 10 ^ (60 : Int).toNat := by decide
    have n60 : ((10 : Int) ^ (60 : Int).toNat).natAbs < 2 ^ 200 := by decide
    refine ⟨_, rfl, _, rfl, ?_⟩
    generalize (if n < 0 then -n else n) = size
    refine ⟨_, rfl, _, _, rfl, rfl, ⟨by decide, by decide, by decide⟩, _, _, rfl, rfl, _, rfl, ite2 (fun e => ?_) (fun e => ?_)⟩
    · refine ⟨_, rfl, _, _, rfl, rfl, ⟨by decide, by decide, by decide⟩, _, _, rfl, rfl, wide_mul (b := 200) d1 n60 (by omega) (by decide) (by omega), _, rfl, _, _, rfl, rfl, ⟨by decide, by decide, by decide⟩, _, _, rfl, rfl, p60, _, _, rfl, rfl, ?_⟩
      have r0 := Int.emod_nonneg size (show (10 : Int) ^ (60 : Int).toNat ≠ 0 by decide)
      have r1 := Int.emod_lt_of_pos size p60
      have nn : 0 ≤ dg * 10 ^ (60 : Int).toNat + size % 10 ^ (60 : Int).toNat := by
        have := Int.mul_nonneg d0 (Int.le_of_lt p60)
        omega
      have bd : (dg * 10 ^ (60 : Int).toNat + size % 10 ^ (60 : Int).toNat).natAbs < 2 ^ (200 * (i + 1) + 1) := by
        have h1 : dg * 10 ^ (60 : Int).toNat + size % 10 ^ (60 : Int).toNat < (dg + 1) * 10 ^ (60 : Int).toNat := by
          rw [Int.add_mul, Int.one_mul]
          omega
        have h2 : (dg + 1).natAbs ≤ 2 ^ (200 * i + 1) := by omega
        have h3 : ((dg + 1) * 10 ^ (60 : Int).toNat).natAbs ≤ 2 ^ (200 * i + 1) * 2 ^ 200 := by
          rw [Int.natAbs_mul]
          exact Nat.mul_le_mul h2 (Nat.le_of_lt n60)
        rw [← Nat.pow_add, show 200 * i + 1 + 200 = 200 * (i + 1) + 1 by omega] at h3
        omega
      refine ⟨_, rfl, _, _, rfl, rfl, .inr ⟨by decide, by decide⟩, _, rfl, _, _, rfl, rfl, q1, _, _, rfl, rfl, _, _, rfl, rfl, _, _, rfl, rfl, q2, _, _, _, _, rfl, nn, bd, Int.emod_nonneg _ (by decide), Int.emod_lt_of_pos _ (by decide), rfl⟩
    · refine ⟨_, rfl, _, _, rfl, rfl, .inr ⟨by decide, by decide⟩, _, rfl, _, _, rfl, rfl, q1, _, _, rfl, rfl, _, _, rfl, rfl, _, _, rfl, rfl, q2, _, _, _, _, rfl, d0, Nat.lt_of_lt_of_le d1 (Nat.pow_le_pow_right (by decide) (by omega)), Int.emod_nonneg _ (by decide), Int.emod_lt_of_pos _ (by decide), rfl⟩
  · obtain ⟨dg, seed, y3, y4, rfl, d0, d1, s0, s1, rfl⟩ := h
    refine ⟨_, rfl, _, rfl, size_le (by show 3 ≤ 100000; decide), fun p hp => ?_⟩
    exact q _ p ((sb.trans sc).trans (same_new hp)) ((sb.trans sc).free hp) ⟨dg, seed, 0, upd_same, s0, by omega, by decide, by decide⟩

end
end Rn
namespace Rn
open PySem PySem.Spec PyProof.Rows L2
section
variable {P : Program} {w : World} {K : PySem.W.Frag} {mg : Str → Option Value} {base : Heap}
def sp_law_draw (K : PySem.W.Frag) : Sp := fun vs H Q _ => ∃ (a : Addr) (n limit : Int), vs = [.ref a, .int limit] ∧ Rng H a n ∧ n ≤ 1000000000 ∧ 0 < limit ∧ limit < 2 ^ 100 ∧
  ∀ H' r, Rdv a 1 H H' → 0 ≤ r → r < limit → Q (.int r) H'
theorem ok_law_draw (T : Txt K mg) : FnOk P w K mg base CX0 1 T.f_law_draw T.d_law_draw ["rng", "limit"] (sp_law_draw K) := by
  refine T.F_law_draw.ok sc_law_draw (fun vs H Q E h => ?_) (fun cdv A outer s H vs Q E hr h => ?_)
  · obtain ⟨a, n, limit, rfl, _⟩ := h
    rfl
  obtain ⟨a, n, limit, rfl, hS, hn, hm0, hm1, q⟩ := h
  refine ⟨_, (pss_cons (ps_if (pt_cmpR op_gt (pe_ix ix_list (pv 0) pe_int (fun _ _ => rfl)) pe_int (nomark _))
      (pss_cons (ps_set (i := 2) sc_law_draw.nd rfl (Or.inl rfl) (pe_op op_mod (pe_ix ix_list (pv 0) pe_int (fun _ _ => rfl)) (pv 1)))
      (pss_cons (ps_asg (pe_op op_fdivW (pe_ix ix_list (pv 0) pe_int (fun _ _ => rfl)) (pv 1)) (pg_sub (pv 0) pe_int set_list))
      (pss_one (ps_ret (pv 2)))))
      pss_nil)
      (pss_cons (ps_asg (pe_op op_add (pe_ix ix_list (pv 0) pe_int (fun _ _ => rfl)) pe_int) (pg_sub (pv 0) pe_int set_list))
      (pss_cons (ps_set (i := 3) sc_law_draw.nd rfl (Or.inl rfl) (pe_op op_mod (pe_op op_pow (pe_op op_add (pe_ix ix_list (pv 0) pe_int (fun _ _ => rfl)) (pe_op op_mul pe_int (pe_ix ix_list (pv 0) pe_int (fun _ _ => rfl)))) pe_int) pe_int))
      (pss_cons (ps_set (i := 3) sc_law_draw.nd rfl (Or.inl rfl) (pe_op op_mod (pe_op op_powW (pe_op op_add (pv 3) (pe_op op_mul pe_int (pe_ix ix_list (pv 0) pe_int (fun _ _ => rfl)))) pe_int) pe_int))
      (pss_one (ps_ret (pe_op op_mod (pe_op op_fdivW (pv 3) pe_int) (pv 1)))))))), ?_⟩
  obtain ⟨dg, seed, cnt, ha, s0, s1, c0, c1⟩ := hS
  have p1 : (0 : Int) < 162259276829213363391578010288127 := by decide
  have p2 : (0 : Int) < 170141183460469231731687303715884105727 := by decide
  -- if rng[0] > 0
  refine ⟨_, rfl, a, _, 0, _, rfl, rfl, sql ha, rfl, _, _, rfl, rfl, _, rfl, ite2 (fun e => ?_) (fun e => ?_)⟩
  · refine ⟨_, rfl, a, _, 0, _, rfl, rfl, sql ha, rfl, _, rfl, _, _, rfl, rfl, hm0, ?_⟩
    refine ⟨_, rfl, a, _, 0, _, rfl, rfl, sql ha, rfl, _, rfl, _, _, rfl, rfl, wide_div (b := 100) hm0 (by omega) (by decide) (by decide), _, rfl, a, _, 0, 0, rfl, rfl, ha, rfl, ?_⟩
    refine ⟨_, rfl, q _ _ (Rdv.made (dg' := dg / limit) (cnt' := cnt) ?_ ha upd_same (by omega) (by omega)) (Int.emod_nonneg _ (by omega)) (Int.emod_lt_of_pos _ hm0)⟩
    rw [hid_src1]
    exact Same.refl _
  · refine ⟨_, rfl, a, _, 2, _, rfl, rfl, sql ha, rfl, _, _, rfl, rfl, _, rfl, a, _, 2, 2, rfl, rfl, ha, rfl, ?_⟩
    have ha2 : (upd H a (.lst [.int dg, .int seed, .int (cnt + 1)])) a = some (.lst [.int dg, .int seed, .int (cnt + 1)]) := upd_same
    have sm2 : Same (hid a a H) (hid a a (upd H a (.lst [.int dg, .int seed, .int (cnt + 1)]))) := by rw [hid_src1]; exact Same.refl _
    show tSeq _ _ _ _ (upd H a (.lst [.int dg, .int seed, .int (cnt + 1)]))
    generalize upd H a (.lst [.int dg, .int seed, .int (cnt + 1)]) = H2 at *
    refine ⟨_, rfl, a, _, 1, _, rfl, rfl, sql ha2, rfl, _, rfl, a, _, 2, _, rfl, rfl, sql ha2, rfl, _, _, rfl, rfl, .inl ⟨by decide, by decide⟩, _, _, rfl, rfl, _, _, rfl, rfl, ⟨by decide, by decide, by omega⟩, _, _, rfl, rfl, p1, ?_⟩
    generalize (seed + 998244353 * (cnt + 1)) ^ (3 : Int).toNat = big
    have b0 := Int.emod_nonneg big (show (162259276829213363391578010288127 : Int) ≠ 0 by decide)
    have b1 := Int.emod_lt_of_pos big p1
    generalize big % 162259276829213363391578010288127 = mx at *
    refine ⟨_, rfl, _, rfl, a, _, 2, _, rfl, rfl, sql ha2, rfl, _, _, rfl, rfl, .inl ⟨by decide, by decide⟩, _, _, rfl, rfl, _, _, rfl, rfl, pow_ok (k := 120) (by omega) (by decide) (by decide), _, _, rfl, rfl, p2, ?_⟩
    refine ⟨_, rfl, _, _, rfl, rfl, wide_div (b := 21) (by decide) (by decide) (by decide) (by decide), _, rfl, _, _, rfl, rfl, hm0, ?_⟩
    exact q H2 _ (Rdv.made sm2 ha ha2 (by omega) (by omega)) (Int.emod_nonneg _ (by omega)) (Int.emod_lt_of_pos _ hm0)

end
end Rn
namespace Rn
open PySem PySem.Spec PyProof.Rows L2
section
variable {P : Program} {w : World} {K : PySem.W.Frag} {mg : Str → Option Value} {base : Heap}
def sp_law_wait (K : PySem.W.Frag) : Sp := fun vs H Q _ => ∃ (a : Addr) (n kinds : Int), vs = [.ref a, .int kinds] ∧ Rng H a n ∧ n ≤ 100000000 ∧ 1 ≤ kinds ∧ kinds ≤ 6 ∧ ∀ H' r, Rdv a 1 H H' → 0 ≤ r → r < 1000000000000 → Q (.int r) H'
theorem ok_law_wait (T : Txt K mg) : FnOk P w K mg base CX0 2 T.f_law_wait T.d_law_wait ["rng", "kinds_here"] (sp_law_wait K) := by
  have G_law_draw := ok_law_draw (P := P) (w := w) (base := base) T
  refine T.F_law_wait.ok sc_law_wait (fun vs H Q E h => ?_) (fun cdv A outer s H vs Q E hr h => ?_)
  · obtain ⟨a, n, kinds, rfl, _⟩ := h
    rfl
  obtain ⟨a, n, kinds, rfl, hS, hn, k1, k6, q⟩ := h
  refine ⟨_, (pss_one (ps_ret (pe_ix ix_list (pe_lst (pa_cons pe_int (pa_cons pe_int (pa_cons pe_int (pa_cons pe_int (pa_cons (pe_op op_sub (pe_op op_pow pe_int pe_int) pe_int) (pa_cons pe_int pa_nil))))))) (pe_call G_law_draw hr (by rfl) T.g_law_draw T.F_law_draw.kp T.b_law_draw .nil pass0 (pa_cons (pv 0) (pa_cons (pv 1) pa_nil))) (fun _ _ => rfl)))), ?_⟩
  refine ⟨_, _, rfl, rfl, ⟨by decide, by decide, by decide⟩, _, _, rfl, rfl, size_le (by show 6 ≤ 100000; decide), fun o ho => ?_⟩
  have no := hS.new1 ho
  have A1 : Rdv a 0 H (upd H o (.lst [.int 0, .int 1, .int 2, .int 5, .int (10 ^ (12 : Int).toNat - 1), .int 7])) := Rdv.of (same_new ho)
  have e1 : hid a a (upd H o (.lst [.int 0, .int 1, .int 2, .int 5, .int (10 ^ (12 : Int).toNat - 1), .int 7])) o = some (.lst (([0, 1, 2, 5, 10 ^ (12 : Int).toNat - 1, 7] : List Int).map V.int)) := by
    rw [hid_oth no no, upd_same]
    rfl
  have S1 := A1.src _ hS
  refine ⟨_, rfl, _, rfl, a, _, kinds, rfl, S1, by omega, by omega, by omega, fun H2 r2 A2 l2 u2 => ?_⟩
  obtain ⟨x, hx, _, hat⟩ := at_int (ns := [0, 1, 2, 5, 10 ^ (12 : Int).toNat - 1, 7]) l2 (by show r2 < 6; omega)
  have hb : 0 ≤ x ∧ x < 1000000000000 := by
    have pw : (10 : Int) ^ (12 : Int).toNat = 1000000000000 := by decide
    rw [pw] at hx
    simp only [List.mem_cons, List.not_mem_nil, or_false] at hx
    omega
  exact ⟨o, _, r2, .int x, rfl, rfl, sql (hid_get (A2.same _ _ e1)).1, hat, q H2 x ((A1.trans A2 (Int.le_refl _)).mono (by omega)) hb.1 hb.2⟩

end
end Rn
namespace Rn
open PySem PySem.Spec PyProof.Rows L2
section
variable {P : Program} {w : World} {K : PySem.W.Frag} {mg : Str → Option Value} {base : Heap}
def sp_law_flat (K : PySem.W.Frag) : Sp := fun vs H Q _ => ∃ (a : Addr) (Ls : List Lay), vs = [.ref a] ∧ NestAt H a Ls ∧ (∀ L ∈ Ls, L.ok = true) ∧ Ls.length ≤ 5000 ∧ attOf Ls ≤ 20000 ∧
  ∀ H' r, Same H H' → H r = none → H' r = some (.lst ((flatL Ls).map V.int)) → Q (.ref r) H'
theorem ok_law_flat (T : Txt K mg) : FnOk P w K mg base CX0 1 T.f_law_flat T.d_law_flat ["layers"] (sp_law_flat K) := by
  refine T.F_law_flat.ok sc_law_flat (fun vs H Q E h => ?_) (fun cdv A outer s H vs Q E hr h => ?_)
  · obtain ⟨a, Ls, rfl, _⟩ := h
    rfl
  obtain ⟨a, Ls, rfl, hN, hok, hz, hsz, k⟩ := h
  refine ⟨_, (pss_cons (ps_set (i := 1) sc_law_flat.nd rfl (Or.inl rfl) pe_int)
      (pss_cons (ps_for PassesOwn.never rfl (pi_list (pv 0)) (pg_name (i := 2) sc_law_flat.nd rfl (Or.inl rfl))
      (pss_one (ps_set (i := 1) sc_law_flat.nd rfl (Or.inl rfl) (pe_op op_mulW (pv 1) (pe_ifExp (pt_val (pe_callB call_isi (by rfl) T.m_isinstance (by decide +kernel) (pa_cons (pv 2) (pa_cons (pe_bltn (v := .ty "tuple") (by rfl) T.m_tuple (by decide +kernel) rfl) pa_nil)))) (pe_ix ix_tup (pv 2) pe_int (fun _ _ => rfl)) (pe_op op_add (pe_callB call_len_seq (by rfl) T.m_len PySem.boot_len (pa_cons (pv 2) pa_nil)) pe_int))))))
      (pss_cons (ps_set (i := 3) sc_law_flat.nd rfl (Or.inl rfl) (pe_lst pa_nil))
      (pss_cons (ps_for PassesOwn.never rfl (pi_range2 (by rfl) T.m_range (pa_cons pe_int (pa_cons (pv 1) pa_nil))) (pg_name (i := 4) sc_law_flat.nd rfl (Or.inl rfl))
      (pss_one (ps_for PassesOwn.never rfl (pi_list (pv 0)) (pg_name (i := 2) sc_law_flat.nd rfl (Or.inl rfl))
      (pss_cons (ps_set (i := 5) sc_law_flat.nd rfl (Or.inl rfl) (pe_ifExp (pt_val (pe_callB call_isi (by rfl) T.m_isinstance (by decide +kernel) (pa_cons (pv 2) (pa_cons (pe_bltn (v := .ty "tuple") (by rfl) T.m_tuple (by decide +kernel) rfl) pa_nil)))) (pe_ix ix_tup (pv 2) pe_int (fun _ _ => rfl)) (pe_op op_add (pe_callB call_len_seq (by rfl) T.m_len PySem.boot_len (pa_cons (pv 2) pa_nil)) pe_int)))
      (pss_cons (ps_if (pt_cmpR op_ne (pe_op op_mod (pv 4) (pv 5)) pe_int (nomark _))
      (pss_cons (ps_expr (pe_bm PySem.F.plainAttrs_list PySem.F.slot_list_append PySem.F.type_list_append mt_append (pv 3) (pa_cons (pe_ifExp (pt_val (pe_callB call_isi (by rfl) T.m_isinstance (by decide +kernel) (pa_cons (pv 2) (pa_cons (pe_bltn (v := .ty "tuple") (by rfl) T.m_tuple (by decide +kernel) rfl) pa_nil)))) (pe_ix ix_tup (pv 2) pe_int (fun _ _ => rfl)) (pe_ix ix_list (pv 2) (pe_op op_sub (pe_op op_mod (pv 4) (pv 5)) pe_int) (fun _ _ => rfl))) pa_nil)))
      (pss_one ps_break))
      pss_nil)
      (pss_one (ps_set (i := 4) sc_law_flat.nd rfl (Or.inl rfl) (pe_op op_fdivW (pv 4) (pv 5)))))))))
      (pss_one (ps_ret (pv 3))))))), ?_⟩
  have big : ∀ L ∈ Ls, L.ok = true ∧ L.cnt < 2 ^ 100 := fun L hL => ⟨hok L hL, by have := cnt_le hok hL; omega⟩
  have fl := flatL_len _ Ls rfl hok
  obtain ⟨vs, hv, hl, hat⟩ := id hN
  -- size
  refine ⟨_, rfl, a, rfl, ⟨vs, sql hv⟩, for_list (xs := vs) (fun i σ H' => (∃ y2, σ = [some (.ref a), some (.int (attOf (Ls.take i))), y2, none, none, none]) ∧ H' = H) ⟨⟨none, rfl⟩, rfl⟩ (fun i σ H' _ h => by rw [h.2]; exact sql hv) (fun i x σ H' hx h => ?_) (fun σ H' h => ?_)⟩
  · obtain ⟨⟨y2, rfl⟩, rfl⟩ := h
    have hi : i < Ls.length := by
      rw [← hl]
      exact (List.getElem?_eq_some_iff.mp hx).1
    have hi' := List.getElem?_eq_getElem hi
    obtain ⟨i1, i2⟩ := attOf_lt i (Ls.take i) (by rw [List.length_take]; omega) fun L hL => big L (List.mem_of_mem_take hL)
    obtain ⟨h1, h2⟩ := big _ (List.getElem_mem hi)
    have h3 := LayAt.con_pos h1
    have hLx := hat i x _ hx hi'
    generalize Ls[i] = L at *
    have et : attOf (Ls.take (i + 1)) = attOf (Ls.take i) * L.cnt := by rw [List.take_add_one, hi', Option.toList_some, attOf_snoc]
    have wm : CMulW (attOf (Ls.take i)) L.cnt := wide_mul (b := 100) i2 (by omega) (by omega) (by decide) (by omega)
    cases L with
    | con wt n =>
      obtain ⟨p, rfl, hp⟩ := hLx
      refine ⟨_, rfl, _, rfl, _, _, _, _, true, rfl, .ty "tuple", .base (.tup hp), kit_ty (by decide +kernel), true, rfl, iteT ?_⟩
      refine ⟨_, rfl, p, _, 1, _, rfl, rfl, sqt hp, rfl, _, _, rfl, rfl, wm, ⟨some (.ref p), ?_⟩, rfl⟩
      rw [et]
      rfl
    | pol ns =>
      obtain ⟨p, rfl, hp⟩ := hLx
      refine ⟨_, rfl, _, rfl, _, _, _, _, false, rfl, .ty "tuple", .base (.lst hp), kit_ty (by decide +kernel), false, rfl, iteF ?_⟩
      refine ⟨_, rfl, p, _, rfl, .inl (sql hp), _, _, rfl, rfl, _, _, rfl, rfl, by rw [List.length_map]; exact wm, ⟨some (.ref p), ?_⟩, rfl⟩
      rw [et, List.length_map]
      rfl
  · obtain ⟨⟨y2, rfl⟩, rfl⟩ := h
    rw [hl, List.take_length]
    -- found = []; for place in range(1, size)
    refine ⟨Nat.zero_le _, fun r hr' => ?_⟩
    refine ⟨_, rfl, _, _, rfl, ⟨by decide, by decide, by omega, by omega⟩, ?_⟩
    refine for_range (lo := 1) (n := _) (fun i σ H2 => (∃ y2 y4 y5, σ = [some (.ref a), some (.int (attOf Ls)), y2, some (.ref r), y4, y5]) ∧ Same H' H2 ∧ H2 r = some (.lst (((flatL Ls).take i).map V.int)))
      ⟨⟨_, _, _, rfl⟩, same_new hr', by rw [upd_same]; rfl⟩ (fun i σ H2 hi h => ?_) (fun σ H2 h => ?_)
    · obtain ⟨⟨y2, y4, y5, rfl⟩, sm, hrr⟩ := h
      have hi2 : i < (flatL Ls).length := by omega
      have gi := List.getElem?_eq_getElem hi2
      have tk : (flatL Ls).take (i + 1) = (flatL Ls).take i ++ [(flatL Ls)[i]] := by rw [List.take_add_one, gi]; rfl
      have sml : (((flatL Ls).take i).map V.int).length < sizeLine := size_lt (by rw [List.length_map, List.length_take]; omega)
      generalize (flatL Ls)[i] = x at *
      have new : upd H2 r (.lst (((flatL Ls).take i).map V.int ++ [.int x])) r = some (.lst (((flatL Ls).take (i + 1)).map V.int)) := by rw [upd_same, tk, List.map_append]; rfl
      -- for layer in layers
      refine ⟨_, rfl, a, rfl, ⟨vs, sql (sm _ _ hv)⟩, for_list (xs := vs) (fun j σ H3 => (∃ (m : Nat) (y2 y5 : Option V), σ = [some (.ref a), some (.int (attOf Ls)), y2, some (.ref r), some (.int ((m : Int) + 1)), y5] ∧ (flatL (Ls.drop j))[m]? = some x) ∧ H3 = H2)
        ⟨⟨i, y2, y5, by rw [Int.add_comm (i : Int) 1]; rfl, gi⟩, rfl⟩ (fun j σ H3 _ h => by rw [h.2]; exact sql (sm _ _ hv)) (fun j y σ H3 hx h => ?_) (fun σ H3 h => ?_)⟩
      · obtain ⟨⟨m, y2, y5, rfl, hm⟩, rfl⟩ := h
        have hj : j < Ls.length := by
          rw [← hl]
          exact (List.getElem?_eq_some_iff.mp hx).1
        have hj' := List.getElem?_eq_getElem hj
        obtain ⟨h1, h2⟩ := big _ (List.getElem_mem hj)
        have h3 := LayAt.con_pos h1
        have hLx := (hat j y _ hx hj').same sm
        have hd : Ls.drop j = Ls[j] :: Ls.drop (j + 1) := List.drop_eq_getElem_cons hj
        have hok' : ∀ M ∈ Ls[j] :: Ls.drop (j + 1), M.ok = true := by
          rw [← hd]
          exact fun M hM => hok M (List.mem_of_mem_drop hM)
        rw [hd, flatL_cons hok'] at hm
        have hmlt := (List.getElem?_eq_some_iff.mp hm).1
        rw [nestL_get _ _ _ hmlt] at hm
        have hw := waits_len h1
        generalize Ls[j] = L at *
        have pos : (0 : Int) < L.cnt := by omega
        have em : ((m : Int) + 1) % L.cnt = (((m + 1) % (L.waits.length + 1) : Nat) : Int) := by
          rw [← hw, Int.natCast_emod]
          push_cast
          rfl
        have ed : ((m : Int) + 1) / L.cnt = (((m + 1) / (L.waits.length + 1) : Nat) : Int) := by
          rw [← hw, Int.natCast_ediv]
          push_cast
          rfl
        have lc : L.cnt.natAbs < 2 ^ 100 := by
          have := h2
          clear em ed hm hmlt hw
          omega
        have one : (m + 1) % (L.waits.length + 1) = 0 → 1 ≤ (m + 1) / (L.waits.length + 1) := fun z0 => by
          have := Nat.div_add_mod (m + 1) (L.waits.length + 1)
          rcases Nat.eq_zero_or_pos ((m + 1) / (L.waits.length + 1)) with z | z
          · rw [z] at this
            omega
          · exact z
        cases L with
        | con wt n =>
          obtain ⟨p, rfl, hp⟩ := hLx
          have hc : (Lay.con wt n).cnt = n := rfl
          rw [hc] at em ed pos lc
          refine ⟨_, rfl, _, _, _, _, true, rfl, .ty "tuple", .base (.tup hp), kit_ty (by decide +kernel), true, rfl, iteT ?_⟩
          refine ⟨_, rfl, p, _, 1, _, rfl, rfl, sqt hp, rfl, ?_⟩
          by_cases z : (m + 1) % ((Lay.con wt n).waits.length + 1) = 0
          · have hb : (!decide (V.int (((m : Int) + 1) % n) = V.int 0)) = false := by
              rw [em, z]
              rfl
            refine ⟨_, rfl, _, rfl, _, _, rfl, rfl, pos, rfl, false, congrArg V.bl hb, ?_⟩
            rw [if_pos z] at hm
            have o1 := one z
            refine iteF ⟨_, rfl, _, rfl, _, _, rfl, rfl, wide_div (b := 100) pos lc (by decide) (by decide), ⟨(m + 1) / ((Lay.con wt n).waits.length + 1) - 1, some (.ref p), some (.int n), ?_, hm⟩, rfl⟩
            show [some (V.ref a), some (.int (attOf Ls)), some (.ref p), some (.ref r), some (V.int (((m : Int) + 1) / n)), some (V.int n)] = _
            rw [ed]
            have : ((((m + 1) / ((Lay.con wt n).waits.length + 1) : Nat) : Int)) = (((m + 1) / ((Lay.con wt n).waits.length + 1) - 1 : Nat) : Int) + 1 := by omega
            rw [this]
          · rw [if_neg z] at hm
            have hb : (!decide (V.int (((m : Int) + 1) % n) = V.int 0)) = true := by
              rw [em, decide_eq_false fun q => z (by have := V.int.inj q; omega)]
              rfl
            refine ⟨_, rfl, _, rfl, _, _, rfl, rfl, pos, rfl, true, congrArg V.bl hb, ?_⟩
            refine iteT ⟨_, rfl, .inl ⟨rfl, _, sql hrr⟩, ?_⟩
            refine ⟨_, rfl, _, _, _, _, true, rfl, .ty "tuple", .base (.tup hp), kit_ty (by decide +kernel), true, rfl, iteT ?_⟩
            have hx : x = wt := (List.mem_replicate.mp (List.mem_of_getElem? hm)).2
            refine ⟨_, rfl, p, _, 0, .int x, rfl, rfl, sqt hp, by rw [hx]; rfl, r, _, _, rfl, rfl, hrr, sml, ⟨⟨_, _, _, rfl⟩, same_keep sm hr', new⟩⟩
        | pol ns =>
          obtain ⟨p, rfl, hp⟩ := hLx
          have hc : (Lay.pol ns).cnt = (ns.length : Int) + 1 := rfl
          have hwl : (Lay.pol ns).waits = ns := rfl
          have ln : ((ns.map V.int).length : Int) + 1 = (ns.length : Int) + 1 := by rw [List.length_map]
          rw [hc, ← ln] at em ed pos lc
          rw [hwl] at em ed hm one
          refine ⟨_, rfl, _, _, _, _, false, rfl, .ty "tuple", .base (.lst hp), kit_ty (by decide +kernel), false, rfl, iteF ?_⟩
          refine ⟨_, rfl, p, _, rfl, .inl (sql hp), _, _, rfl, rfl, ?_⟩
          by_cases z : (m + 1) % (ns.length + 1) = 0
          · have hb : (!decide (V.int (((m : Int) + 1) % (((ns.map V.int).length : Int) + 1)) = V.int 0)) = false := by
              rw [em, z]
              rfl
            refine ⟨_, rfl, _, rfl, _, _, rfl, rfl, pos, rfl, false, congrArg V.bl hb, ?_⟩
            rw [if_pos z] at hm
            have o1 := one z
            refine iteF ⟨_, rfl, _, rfl, _, _, rfl, rfl, wide_div (b := 100) pos lc (by decide) (by decide), ⟨(m + 1) / (ns.length + 1) - 1, some (.ref p), some (.int (((ns.map V.int).length : Int) + 1)), ?_, hm⟩, rfl⟩
            show [some (V.ref a), some (.int (attOf Ls)), some (.ref p), some (.ref r), some (V.int (((m : Int) + 1) / (((ns.map V.int).length : Int) + 1))), some (V.int (((ns.map V.int).length : Int) + 1))] = _
            rw [ed]
            have : ((((m + 1) / (ns.length + 1) : Nat) : Int)) = (((m + 1) / (ns.length + 1) - 1 : Nat) : Int) + 1 := by omega
            rw [this]
          · rw [if_neg z] at hm
            have hb : (!decide (V.int (((m : Int) + 1) % (((ns.map V.int).length : Int) + 1)) = V.int 0)) = true := by
              rw [em, decide_eq_false fun q => z (by have := V.int.inj q; omega)]
              rfl
            refine ⟨_, rfl, _, rfl, _, _, rfl, rfl, pos, rfl, true, congrArg V.bl hb, ?_⟩
            refine iteT ⟨_, rfl, .inl ⟨rfl, _, sql hrr⟩, ?_⟩
            refine ⟨_, rfl, _, _, _, _, false, rfl, .ty "tuple", .base (.lst hp), kit_ty (by decide +kernel), false, rfl, iteF ?_⟩
            have hat2 : atI (ns.map V.int) (((m : Int) + 1) % (((ns.map V.int).length : Int) + 1) - 1) = some (.int x) := by
              rw [em]
              have : (((m + 1) % (ns.length + 1) : Nat) : Int) - 1 = (((m + 1) % (ns.length + 1) - 1 : Nat) : Int) := by omega
              rw [this]
              exact atI_nat (map_get hm)
            refine ⟨_, rfl, _, rfl, _, rfl, _, _, rfl, rfl, pos, _, _, rfl, rfl, p, _, _, .int x, rfl, rfl, sql hp, hat2, r, _, _, rfl, rfl, hrr, sml, ⟨⟨_, _, _, rfl⟩, same_keep sm hr', new⟩⟩
      · obtain ⟨⟨m, y2, y5, rfl, hm⟩, rfl⟩ := h
        rw [hl, List.drop_length] at hm
        cases hm
    · obtain ⟨⟨y2, y4, y5, rfl⟩, sm, hrr⟩ := h
      refine ⟨_, rfl, k H2 r sm hr' ?_⟩
      rw [hrr, List.take_of_length_le (by omega)]

end
end Rn
namespace Rn
open PySem PySem.Spec PyProof.Rows L2
section
variable {P : Program} {w : World} {K : PySem.W.Frag} {mg : Str → Option Value} {base : Heap}
theorem nest_lowP {a d p : Addr} {G : Hp} {Ls : List Lay} (h : NestAt (hid a d G) p Ls) : NestAt G p Ls := by
  obtain ⟨vs, h1, h2, h3⟩ := h
  refine ⟨vs, (hid_get h1).1, h2, fun i v L x y => ?_⟩
  have := h3 i v L x y
  cases L with
  | pol ns => obtain ⟨p, e, z⟩ := this; exact ⟨p, e, (hid_get z).1⟩
  | con w n => obtain ⟨p, e, z⟩ := this; exact ⟨p, e, (hid_get z).1⟩
theorem not_flat {ns : List Int} {x y : Int} (hx : x ∈ ns) (hy : y ∈ ns) (h : x ≠ y) : ¬ Flat1 ns := fun ⟨w, hw⟩ => by
  rw [hw] at hx hy
  exact h ((List.mem_replicate.mp hx).2.trans (List.mem_replicate.mp hy).2.symm)
theorem prime_row {ns : List Int} (hl : ns.length ∈ [2, 4, 6, 10, 12, 16, 18, 22, 28]) {x y : Int} (hx : x ∈ ns) (hy : y ∈ ns) (h : x ≠ y) (h0 : ∀ z ∈ ns, 0 ≤ z) : (Lay.pol ns).nf := by
  refine ⟨⟨List.length_pos_of_mem hx, fun j j1 j2 => inn_false fun z => ?_⟩, not_flat hx hy h, h0⟩
  have hd : j ∣ ns.length + 1 := (per_c.mp z).2.1
  generalize ns.length = k at *
  have key : ∀ k ∈ [2, 4, 6, 10, 12, 16, 18, 22, 28], ∀ j < 30, 1 < j → j < k + 1 → ¬ j ∣ k + 1 := by decide +kernel
  have k28 : k ≤ 28 := by
    have : ∀ k ∈ [2, 4, 6, 10, 12, 16, 18, 22, 28], k ≤ 28 := by decide
    exact this k hl
  exact key k hl j (by omega) (by omega) (by omega) hd
def sp_law_block (K : PySem.W.Frag) : Sp := fun vs H Q _ => ∃ (a : Addr) (n : Int), vs = [.ref a] ∧ Rng H a n ∧ n ≤ 1000000 ∧
  ∀ H' v L, Rdv a 100 H H' → LayAt (hid a a H') v L → L.nf → L.cnt ≤ 29 → (∀ w n, L = .con w n → n ≤ 12) → (∀ e, v = V.ref e → H e = none) → Q v H'
theorem ok_law_block (T : Txt K mg) : FnOk P w K mg base CX0 3 T.f_law_block T.d_law_block ["rng"] (sp_law_block K) := by
  have G_law_draw := (ok_law_draw (P := P) (w := w) (base := base) T).mono (by decide : 1 ≤ 2)
  have G_law_wait := (ok_law_wait (P := P) (w := w) (base := base) T)
  refine T.F_law_block.ok sc_law_block (fun vs H Q E h => ?_) (fun cdv A outer s H vs Q E hr h => ?_)
  · obtain ⟨a, n, rfl, _⟩ := h
    rfl
  obtain ⟨a, n, rfl, S0, hn, q⟩ := h
  refine ⟨_, (pss_cons (ps_if (pt_cmpR op_eq (pe_call G_law_draw hr (by rfl) T.g_law_draw T.F_law_draw.kp T.b_law_draw .nil pass0 (pa_cons (pv 0) (pa_cons pe_int pa_nil))) pe_int (nomark _))
      (pss_one (ps_ret (pe_tup (pa_cons (pe_call G_law_wait hr (by rfl) T.g_law_wait T.F_law_wait.kp T.b_law_wait .nil pass0 (pa_cons (pv 0) (pa_cons (pe_ix ix_list (pe_lst (pa_cons pe_int (pa_cons pe_int pa_nil))) (pe_call G_law_draw hr (by rfl) T.g_law_draw T.F_law_draw.kp T.b_law_draw .nil pass0 (pa_cons (pv 0) (pa_cons pe_int pa_nil))) (fun _ _ => rfl)) pa_nil))) (pa_cons (pe_op op_add pe_int (pe_call G_law_draw hr (by rfl) T.g_law_draw T.F_law_draw.kp T.b_law_draw .nil pass0 (pa_cons (pv 0) (pa_cons pe_int pa_nil)))) pa_nil)))))
      pss_nil)
      (pss_cons (ps_if (pt_cmpR op_eq (pe_call G_law_draw hr (by rfl) T.g_law_draw T.F_law_draw.kp T.b_law_draw .nil pass0 (pa_cons (pv 0) (pa_cons pe_int pa_nil))) pe_int (nomark _))
      (pss_one (ps_ret (pe_ix ix_list (pe_lst (pa_cons (pe_lst (pa_cons pe_int (pa_cons pe_int (pa_cons pe_int pa_nil)))) (pa_cons (pe_lst (pa_cons pe_int (pa_cons pe_int (pa_cons pe_int pa_nil)))) (pa_cons (pe_lst (pa_cons pe_int (pa_cons pe_int (pa_cons pe_int (pa_cons pe_int (pa_cons pe_int pa_nil)))))) (pa_cons (pe_lst (pa_cons pe_int (pa_cons pe_int (pa_cons pe_int (pa_cons pe_int (pa_cons pe_int pa_nil)))))) (pa_cons (pe_lst (pa_cons pe_int (pa_cons pe_int (pa_cons pe_int (pa_cons pe_int (pa_cons pe_int (pa_cons pe_int (pa_cons pe_int pa_nil)))))))) (pa_cons (pe_lst (pa_cons pe_int (pa_cons pe_int (pa_cons pe_int (pa_cons pe_int (pa_cons pe_int (pa_cons pe_int (pa_cons pe_int pa_nil)))))))) pa_nil))))))) (pe_call G_law_draw hr (by rfl) T.g_law_draw T.F_law_draw.kp T.b_law_draw .nil pass0 (pa_cons (pv 0) (pa_cons pe_int pa_nil))) (fun _ _ => rfl))))
      pss_nil)
      (pss_cons (ps_setLc (i := 1) (own := [("turn", 2)]) (g := gName 2) (tt := tYes) rfl sc_law_block.nd rfl rfl (sw_true rfl rfl rfl (by decide +kernel)) (pi_range1 (by rfl) T.m_range (pa_cons (pe_ix ix_list (pe_lst (pa_cons pe_int (pa_cons pe_int (pa_cons pe_int (pa_cons pe_int (pa_cons pe_int (pa_cons pe_int (pa_cons pe_int (pa_cons pe_int pa_nil))))))))) (pe_call G_law_draw hr (by rfl) T.g_law_draw T.F_law_draw.kp T.b_law_draw .nil pass0 (pa_cons (pv 0) (pa_cons pe_int pa_nil))) (fun _ _ => rfl)) pa_nil)) (blkOk_by (N := ["rng", "found", "turn"]) (sc := defScope s_law_block) (by decide +kernel)) (fun _ _ _ _ _ => (pg_name (i := 2) sc_law_block.nd rfl (Or.inl rfl))) (fun _ _ _ _ _ => pts_nil) (fun _ _ _ _ _ => (pe_call G_law_wait hr (by rfl) T.g_law_wait T.F_law_wait.kp T.b_law_wait .nil pass0 (pa_cons (pv 0) (pa_cons pe_int pa_nil)))))
      (pss_cons (ps_asg (pe_op op_add (pe_ix ix_list (pv 1) pe_int (fun _ _ => rfl)) pe_int) (pg_sub (pv 1) (pe_un un_neg pe_int) set_list))
      (pss_one (ps_ret (pv 1))))))), ?_⟩
  refine ⟨_, rfl, a, _, 2, rfl, S0, by omega, by decide, by decide, fun H1 r1 A1 _ _ => ⟨rfl, _, rfl, ite2 (fun _ => ?_) (fun _ => ?_)⟩⟩
  · have S1 := A1.src _ S0
    refine ⟨_, rfl, size_le (by show 2 ≤ 100000; decide), fun o ho => ?_⟩
    have no := S1.new1 ho
    have B0 : Rdv a 0 H1 (upd H1 o (.lst [.int 2, .int 6])) := Rdv.of (same_new ho)
    have e0 : hid a a (upd H1 o (.lst [.int 2, .int 6])) o = some (.lst (([2, 6] : List Int).map V.int)) := by
      rw [hid_oth no no, upd_same]
      rfl
    generalize upd H1 o (.lst [.int 2, .int 6]) = H2 at *
    have S2 := B0.src _ S1
    refine ⟨_, rfl, a, _, 2, rfl, S2, by omega, by decide, by decide, fun H3 r3 A3 l3 u3 => ?_⟩
    obtain ⟨kd, hkd, _, hat⟩ := at_int (ns := [2, 6]) l3 u3
    have kb : 1 ≤ kd ∧ kd ≤ 6 := by simp at hkd; omega
    have S3 := A3.src _ S2
    refine ⟨o, _, r3, .int kd, rfl, rfl, sql (hid_get (A3.same _ _ e0)).1, hat, ?_⟩
    refine ⟨a, _, kd, rfl, S3, by omega, kb.1, kb.2, fun H4 w A4 w0 w1 => ?_⟩
    have S4 := A4.src _ S3
    refine ⟨_, rfl, a, _, 11, rfl, S4, by omega, by decide, by decide, fun H5 y A5 y0 y1 => ⟨_, _, rfl, rfl, size_le (by show 2 ≤ 100000; decide), fun t ft => ?_⟩⟩
    have S5 := A5.src _ S4
    have nt := S5.new1 ft
    have C5 := (((A1.trans B0 (Int.le_refl _)).trans A3 (Int.le_refl _)).trans A4 (Int.le_refl _)).trans A5 (Int.le_refl _)
    refine q _ (.ref t) (.con w (2 + y)) ((C5.trans (Rdv.of (same_new ft)) (Int.le_refl _)).mono (by omega)) ⟨t, rfl, hid_at upd_same nt nt⟩ ⟨w0, by omega⟩ (by show 2 + y ≤ 29; omega) (fun w' n' z => by cases z; omega) (fun e z => by cases z; exact C5.free S0 ft)
  have S1 := A1.src _ S0
  refine ⟨_, rfl, a, _, 3, rfl, S1, by omega, by decide, by decide, fun H2 r2 A2 _ _ => ⟨rfl, _, rfl, ite2 (fun _ => ?_) (fun _ => ?_)⟩⟩
  · have S2 := A2.src _ S1
    have C2 := A1.trans A2 (Int.le_refl _)
    refine ⟨size_le (by show 3 ≤ 100000; decide), fun b1 h1 => ⟨size_le (by show 3 ≤ 100000; decide), fun b2 h2 => ⟨size_le (by show 5 ≤ 100000; decide), fun b3 h3 => ⟨size_le (by show 5 ≤ 100000; decide), fun b4 h4 => ⟨size_le (by show 7 ≤ 100000; decide), fun b5 h5 => ⟨size_le (by show 7 ≤ 100000; decide), fun b6 h6 => ⟨size_le (by show 6 ≤ 100000; decide), fun o ho => ?_⟩⟩⟩⟩⟩⟩⟩
    have one : ∀ {G : Hp} {b : Addr} {o : HO}, G b = none → Same G (upd G b o) := fun h => same_new h
    have s1 := one (o := .lst [.int 1, .int 2, .int 3]) h1
    have g1 := upd_same (H := H2) (a := b1) (o := .lst [.int 1, .int 2, .int 3])
    generalize upd H2 b1 (.lst [.int 1, .int 2, .int 3]) = K1 at *
    have s2 := one (o := .lst [.int 0, .int 0, .int 1]) h2
    have g2 := upd_same (H := K1) (a := b2) (o := .lst [.int 0, .int 0, .int 1])
    generalize upd K1 b2 (.lst [.int 0, .int 0, .int 1]) = K2 at *
    have s3 := one (o := .lst [.int 2, .int 1, .int 1, .int 1, .int 1]) h3
    have g3 := upd_same (H := K2) (a := b3) (o := .lst [.int 2, .int 1, .int 1, .int 1, .int 1])
    generalize upd K2 b3 (.lst [.int 2, .int 1, .int 1, .int 1, .int 1]) = K3 at *
    have s4 := one (o := .lst [.int 1, .int 1, .int 1, .int 1, .int 2]) h4
    have g4 := upd_same (H := K3) (a := b4) (o := .lst [.int 1, .int 1, .int 1, .int 1, .int 2])
    generalize upd K3 b4 (.lst [.int 1, .int 1, .int 1, .int 1, .int 2]) = K4 at *
    have s5 := one (o := .lst [.int 0, .int 1, .int 2, .int 0, .int 1, .int 3, .int 0]) h5
    have g5 := upd_same (H := K4) (a := b5) (o := .lst [.int 0, .int 1, .int 2, .int 0, .int 1, .int 3, .int 0])
    generalize upd K4 b5 (.lst [.int 0, .int 1, .int 2, .int 0, .int 1, .int 3, .int 0]) = K5 at *
    have s6 := one (o := .lst [.int 5, .int 5, .int 5, .int 7, .int 5, .int 5, .int 0]) h6
    have g6 := upd_same (H := K5) (a := b6) (o := .lst [.int 5, .int 5, .int 5, .int 7, .int 5, .int 5, .int 0])
    generalize upd K5 b6 (.lst [.int 5, .int 5, .int 5, .int 7, .int 5, .int 5, .int 0]) = K6 at *
    have s7 := one (o := .lst [.ref b1, .ref b2, .ref b3, .ref b4, .ref b5, .ref b6]) ho
    have g7 := upd_same (H := K6) (a := o) (o := .lst [.ref b1, .ref b2, .ref b3, .ref b4, .ref b5, .ref b6])
    generalize upd K6 o (.lst [.ref b1, .ref b2, .ref b3, .ref b4, .ref b5, .ref b6]) = K7 at *
    have t6 := s6.trans s7
    have t5 := s5.trans t6
    have t4 := s4.trans t5
    have t3 := s3.trans t4
    have t2 := s2.trans t3
    have t1 := s1.trans t2
    have f1 : H2 b1 = none := h1
    have f2 : H2 b2 = none := s1.free h2
    have f3 : H2 b3 = none := s1.free (s2.free h3)
    have f4 : H2 b4 = none := s1.free (s2.free (s3.free h4))
    have f5 : H2 b5 = none := s1.free (s2.free (s3.free (s4.free h5)))
    have f6 : H2 b6 = none := s1.free (s2.free (s3.free (s4.free (s5.free h6))))
    have f7 : H2 o = none := s1.free (s2.free (s3.free (s4.free (s5.free (s6.free ho)))))
    have no := S2.new1 f7
    have B7 : Rdv a 0 H2 K7 := Rdv.of t1
    have S7 := B7.src _ S2
    refine ⟨_, rfl, a, _, 6, rfl, S7, by omega, by decide, by decide, fun H3 r3 A3 l3 u3 => ?_⟩
    have all : ∀ j : Nat, j < 6 → ∃ (e : Addr) (ks : List Int), [V.ref b1, .ref b2, .ref b3, .ref b4, .ref b5, .ref b6][j]? = some (.ref e) ∧ K7 e = some (.lst (ks.map V.int)) ∧ H2 e = none ∧ (Lay.pol ks).nf ∧ ks.length ≤ 28 := fun j hj => by
      have mk : ∀ ks : List Int, unsB ks = true → (∃ x ∈ ks, ∃ y ∈ ks, x ≠ y) → (∀ x ∈ ks, 0 ≤ x) → (Lay.pol ks).nf := fun ks h1 ⟨x, hx, y, hy, h⟩ h3 => ⟨uns_iff.mp h1, not_flat hx hy h, h3⟩
      match j, hj with
      | 0, _ => exact ⟨b1, [1, 2, 3], rfl, t2 _ _ g1, f1, mk _ (by decide +kernel) ⟨1, by decide, 2, by decide, by decide⟩ (by decide), by decide⟩
      | 1, _ => exact ⟨b2, [0, 0, 1], rfl, t3 _ _ g2, f2, mk _ (by decide +kernel) ⟨0, by decide, 1, by decide, by decide⟩ (by decide), by decide⟩
      | 2, _ => exact ⟨b3, [2, 1, 1, 1, 1], rfl, t4 _ _ g3, f3, mk _ (by decide +kernel) ⟨1, by decide, 2, by decide, by decide⟩ (by decide), by decide⟩
      | 3, _ => exact ⟨b4, [1, 1, 1, 1, 2], rfl, t5 _ _ g4, f4, mk _ (by decide +kernel) ⟨1, by decide, 2, by decide, by decide⟩ (by decide), by decide⟩
      | 4, _ => exact ⟨b5, [0, 1, 2, 0, 1, 3, 0], rfl, t6 _ _ g5, f5, mk _ (by decide +kernel) ⟨1, by decide, 2, by decide, by decide⟩ (by decide), by decide⟩
      | 5, _ => exact ⟨b6, [5, 5, 5, 7, 5, 5, 0], rfl, s7 _ _ g6, f6, mk _ (by decide +kernel) ⟨5, by decide, 7, by decide, by decide⟩ (by decide), by decide⟩
    obtain ⟨j, rfl⟩ := Int.eq_ofNat_of_zero_le l3
    obtain ⟨e, ks, h1, h2, h3, h4, h5⟩ := all j (by omega)
    have ne := S2.new1 h3
    refine ⟨o, _, (j : Int), .ref e, rfl, rfl, sql (hid_get (A3.same _ _ (hid_at g7 no no))).1, atI_nat h1, ?_⟩
    refine q H3 (.ref e) (.pol ks) (((C2.trans B7 (Int.le_refl _)).trans A3 (Int.le_refl _)).mono (by omega)) ⟨e, rfl, A3.same _ _ (hid_at h2 ne ne)⟩ h4 (by show (ks.length : Int) + 1 ≤ 29; omega) (fun w' n' z => by cases z) (fun x z => by cases z; exact C2.free S0 h3)
  have S2 := A2.src _ S1
  have C2 := A1.trans A2 (Int.le_refl _)
  refine ⟨size_le (by show 8 ≤ 100000; decide), fun o ho => ?_⟩
  have no := S2.new1 ho
  have B0 : Rdv a 0 H2 (upd H2 o (.lst [.int 2, .int 4, .int 6, .int 10, .int 12, .int 16, .int 22, .int 28])) := Rdv.of (same_new ho)
  have e0 : hid a a (upd H2 o (.lst [.int 2, .int 4, .int 6, .int 10, .int 12, .int 16, .int 22, .int 28])) o = some (.lst (([2, 4, 6, 10, 12, 16, 22, 28] : List Int).map V.int)) := by
    rw [hid_oth no no, upd_same]
    rfl
  generalize upd H2 o (.lst [.int 2, .int 4, .int 6, .int 10, .int 12, .int 16, .int 22, .int 28]) = H3 at *
  have S3 := B0.src _ S2
  refine ⟨_, rfl, a, _, 8, rfl, S3, by omega, by decide, by decide, fun H4 r4 A4 l4 u4 => ?_⟩
  obtain ⟨sz, hsz, _, hat⟩ := at_int (ns := [2, 4, 6, 10, 12, 16, 22, 28]) l4 u4
  have sb : 2 ≤ sz ∧ sz ≤ 28 := by simp at hsz; omega
  have hpr : sz.toNat ∈ [2, 4, 6, 10, 12, 16, 18, 22, 28] := by
    simp only [List.mem_cons, List.not_mem_nil, or_false] at hsz ⊢
    omega
  have S4 := A4.src _ S3
  have C4 := (C2.trans B0 (Int.le_refl _)).trans A4 (Int.le_refl _)
  refine ⟨o, _, r4, .int sz, rfl, rfl, sql (hid_get (A4.same _ _ e0)).1, hat, _, rfl, by omega, by omega, fun D hD => ?_⟩
  have nD := S4.new1 hD
  have fD : H D = none := C4.free S0 hD
  refine lc_range (lo := 0) (n := sz.toNat) (fun i H' => ∃ ks : List Int, hid a a H' D = some (.lst (ks.map V.int)) ∧ ks.length = i ∧ (∀ x ∈ ks, 0 ≤ x) ∧ Rdv a (10 + i) H H')
    ⟨[], by rw [hid_oth nD nD, upd_same]; rfl, rfl, (fun _ z => nomatch z), (C4.trans (Rdv.of (same_new hD)) (Int.le_refl _)).mono (by omega)⟩ (fun i H5 hi h => ?_) (fun H5 h => ?_)
  · obtain ⟨ks, hk, hkl, hkb, A5⟩ := h
    have S5 := A5.src _ S0
    refine ⟨rfl, _, rfl, a, _, 3, rfl, S5, by omega, by decide, by decide, fun H6 x A6 l6 u6 => ?_⟩
    refine ⟨_, (hid_get (A6.same _ _ hk)).1, size_lt (by rw [List.length_map]; omega), ks ++ [x], by rw [hid_oth nD nD, upd_same, List.map_append]; rfl, by rw [List.length_append, hkl]; rfl, fun y hy => ?_, ((A5.trans A6 (Int.le_refl _)).mut S0 fD).mono (by omega)⟩
    rcases List.mem_append.mp hy with z | z
    · exact hkb y z
    · rw [List.mem_singleton.mp z]
      exact l6
  · obtain ⟨ks, hk, hkl, hkb, A5⟩ := h
    have k0 : 0 < ks.length := by omega
    have lk : (ks.map V.int).length = ks.length := List.length_map ..
    refine ⟨_, rfl, D, _, 0, _, rfl, rfl, sql (hid_get hk).1, atI_nat (j := 0) (map_get (List.getElem?_eq_getElem k0)), _, _, rfl, rfl, ?_⟩
    refine ⟨_, rfl, _, rfl, D, _, -1, ks.length - 1, rfl, rfl, (hid_get hk).1, by rw [ixN_last (by omega), lk], ?_⟩
    have es : (ks.map V.int).set (ks.length - 1) (V.int (ks[0] + 1)) = (ks.set (ks.length - 1) (ks[0] + 1)).map V.int := by rw [List.map_set]
    have h1 : ks[0] ∈ ks.set (ks.length - 1) (ks[0] + 1) := by
      have hne : ks.length - 1 ≠ 0 := by omega
      have : (ks.set (ks.length - 1) (ks[0] + 1))[0]? = some ks[0] := by
        rw [List.getElem?_set_ne hne, List.getElem?_eq_getElem k0]
      exact List.mem_of_getElem? this
    have h2 : ks[0] + 1 ∈ ks.set (ks.length - 1) (ks[0] + 1) := List.mem_set (by omega) _
    have p0 := hkb _ (List.getElem_mem k0)
    refine ⟨_, rfl, ?_⟩
    show Q (.ref D) (upd H5 D (.lst ((ks.map V.int).set (ks.length - 1) (V.int (ks[0] + 1)))))
    rw [es]
    refine q _ (.ref D) (.pol (ks.set (ks.length - 1) (ks[0] + 1))) ((A5.mut S0 fD).mono (by omega)) ⟨D, rfl, by rw [hid_oth nD nD]; exact upd_same⟩ (prime_row (by rw [List.length_set, hkl]; exact hpr) h1 h2 (by omega) fun z hz => ?_) (by show (((ks.set (ks.length - 1) (ks[0] + 1)).length : Nat) : Int) + 1 ≤ 29; rw [List.length_set]; omega) (fun w' n' z => by cases z) (fun x z => by cases z; exact fD)
    rcases List.mem_or_eq_of_mem_set hz with z' | z'
    · exact hkb z z'
    · omega

end
end Rn
namespace Rn
open PySem PySem.Spec PyProof.Rows L2
section
variable {P : Program} {w : World} {K : PySem.W.Frag} {mg : Str → Option Value} {base : Heap}
def sp_law_form (K : PySem.W.Frag) : Sp := fun vs H Q _ => ∃ (a : Addr) (n most : Int), vs = [.ref a, .int most] ∧ Rng H a n ∧ n ≤ 500000 ∧ 0 ≤ most ∧ most ≤ 5 ∧
  ∀ H' r ps, Rdv a 1000 H H' → H r = none → hid a a H' r = some (.lst ((ps : List (V × Lay)).map Prod.fst)) → LaysP (hid a a H') ps → NF (ps.map Prod.snd) → Small ps → (ps.length : Int) ≤ most → Q (.ref r) H'
theorem ok_law_form (T : Txt K mg) : FnOk P w K mg base CX0 4 T.f_law_form T.d_law_form ["rng", "most"] (sp_law_form K) := by
  have G_law_draw := (ok_law_draw (P := P) (w := w) (base := base) T).mono (by decide : 1 ≤ 3)
  have G_law_block := (ok_law_block (P := P) (w := w) (base := base) T)
  refine T.F_law_form.ok sc_law_form (fun vs H Q E h => ?_) (fun cdv A outer s H vs Q E hr h => ?_)
  · obtain ⟨a, n, most, rfl, _⟩ := h
    rfl
  obtain ⟨a, n, most, rfl, S0, hn, m0, m5, q⟩ := h
  refine ⟨_, (pss_cons (ps_set (i := 2) sc_law_form.nd rfl (Or.inl rfl) (pe_lst pa_nil))
      (pss_cons (ps_for PassesOwn.never rfl (pi_range1 (by rfl) T.m_range (pa_cons (pe_call G_law_draw hr (by rfl) T.g_law_draw T.F_law_draw.kp T.b_law_draw .nil pass0 (pa_cons (pv 0) (pa_cons (pe_op op_add (pv 1) pe_int) pa_nil))) pa_nil)) (pg_name (i := 3) sc_law_form.nd rfl (Or.inl rfl))
      (pss_cons (ps_set (i := 4) sc_law_form.nd rfl (Or.inl rfl) (pe_call G_law_block hr (by rfl) T.g_law_block T.F_law_block.kp T.b_law_block .nil pass0 (pa_cons (pv 0) pa_nil)))
      (pss_one (ps_if (PW.pt (pw_or (pt_not (pt_val (pe_callB call_isi (by rfl) T.m_isinstance (by decide +kernel) (pa_cons (pv 4) (pa_cons (pe_bltn (v := .ty "tuple") (by rfl) T.m_tuple (by decide +kernel) rfl) pa_nil))))) (pw_or (pt_cmpR (op_eqD hr.units) (pv 2) (pe_lst pa_nil) (nomark _)) (pw_or (pt_not (pt_val (pe_callB call_isi (by rfl) T.m_isinstance (by decide +kernel) (pa_cons (pe_ix ix_list (pv 2) (pe_un un_neg pe_int) (fun _ _ => rfl)) (pa_cons (pe_bltn (v := .ty "tuple") (by rfl) T.m_tuple (by decide +kernel) rfl) pa_nil))))) (pw_or1 (pt_cmpR op_ne (pe_ix ix_tup (pe_ix ix_list (pv 2) (pe_un un_neg pe_int) (fun _ _ => rfl)) pe_int (fun _ _ => rfl)) (pe_ix ix_tup (pv 4) pe_int (fun _ _ => rfl)) (nomark _)))))))
      (pss_one (ps_expr (pe_bm PySem.F.plainAttrs_list PySem.F.slot_list_append PySem.F.type_list_append mt_append (pv 2) (pa_cons (pv 4) pa_nil))))
      pss_nil))))
      (pss_one (ps_ret (pv 2))))), ?_⟩
  refine ⟨Nat.zero_le _, fun r hr' => ?_⟩
  have nr := S0.new1 hr'
  have B1 : Rdv a 0 H (upd H r (.lst [])) := Rdv.of (same_new hr')
  have e1 : hid a a (upd H r (.lst [])) r = some (.lst (([] : List (V × Lay)).map Prod.fst)) := hid_at upd_same nr nr
  generalize upd H r (.lst []) = H1 at *
  have S1 := B1.src _ S0
  refine ⟨_, rfl, _, rfl, _, _, rfl, rfl, a, _, most + 1, rfl, S1, by omega, by omega, by omega, fun H2 m A2 l2 u2 => ⟨_, rfl, by omega, by omega, ?_⟩⟩
  have nf0 : NF (([] : List (V × Lay)).map Prod.snd) := ⟨(fun _ z => nomatch z), fun i w n w' m a => by cases a⟩
  refine for_range (lo := 0) (n := m.toNat) (fun i σ H' => ∃ y3 y4 ps, σ = [some (.ref a), some (.int most), some (.ref r), y3, y4] ∧ Rdv a (1 + 100 * i) H H' ∧ hid a a H' r = some (.lst (ps.map Prod.fst)) ∧ LaysP (hid a a H') ps ∧ (∀ x ∈ ps, ∀ e, x.1 = V.ref e → e ≠ r) ∧ NF (ps.map Prod.snd) ∧ Small ps ∧ ps.length ≤ i)
    ⟨none, none, [], rfl, (B1.trans A2 (Int.le_refl _)).mono (by omega), A2.same _ _ e1, (fun _ z => nomatch z), (fun _ z => nomatch z), nf0, (fun _ z => nomatch z), Nat.le_refl _⟩ (fun i σ H3 hi h => ?_) (fun σ H3 h => ?_)
  · obtain ⟨y3, y4, ps, rfl, A3, e3, L3, ne3, nf3, sm3, len3⟩ := h
    have S3 := A3.src _ S0
    refine ⟨_, rfl, a, _, rfl, S3, by omega, fun H4 v L A4 lay nfL cL conL fresh => ?_⟩
    have C4 := A3.trans A4 (Int.le_refl _)
    have e4 := A4.same _ _ e3
    have L4 := L3.same A4.same
    have er := (hid_get e4).1
    have skip : ∃ y3 y4 ps, [some (V.ref a), some (.int most), some (.ref r), some (.int (0 + (i : Int))), some v] = [some (V.ref a), some (.int most), some (.ref r), y3, y4] ∧ Rdv a (1 + 100 * ((i + 1 : Nat) : Int)) H H4 ∧ hid a a H4 r = some (.lst ((ps : List (V × Lay)).map Prod.fst)) ∧ LaysP (hid a a H4) ps ∧ (∀ x ∈ ps, ∀ e, x.1 = V.ref e → e ≠ r) ∧ NF (ps.map Prod.snd) ∧ Small ps ∧ ps.length ≤ i + 1 :=
      ⟨_, _, ps, rfl, C4.mono (by omega), e4, L4, ne3, nf3, sm3, by omega⟩
    have lf : (ps.map Prod.fst).length = ps.length := List.length_map ..
    have neL : ∀ e, v = V.ref e → e ≠ r := fun e z w => by
      have := fresh e z
      rw [w, (hid_get e3).1] at this
      cases this
    have add : ∀ H5 : Hp, Same H4 H5 → (∀ A w n v' m, ps.map Prod.snd = A ++ [.con w n] → L = .con v' m → w ≠ v') → ∃ y3 y4 qs, [some (V.ref a), some (.int most), some (.ref r), some (.int (0 + (i : Int))), some v] = [some (V.ref a), some (.int most), some (.ref r), y3, y4] ∧ Rdv a (1 + 100 * ((i + 1 : Nat) : Int)) H (upd H5 r (.lst (ps.map Prod.fst ++ [v]))) ∧ hid a a (upd H5 r (.lst (ps.map Prod.fst ++ [v]))) r = some (.lst ((qs : List (V × Lay)).map Prod.fst)) ∧ LaysP (hid a a (upd H5 r (.lst (ps.map Prod.fst ++ [v])))) qs ∧ (∀ x ∈ qs, ∀ e, x.1 = V.ref e → e ≠ r) ∧ NF (qs.map Prod.snd) ∧ Small qs ∧ qs.length ≤ i + 1 := fun H5 s5 hn' => by
      have each : ∀ x ∈ ps ++ [(v, L)], x ∈ ps ∨ x = (v, L) := fun x hx => (List.mem_append.mp hx).elim .inl fun z => .inr (List.mem_singleton.mp z)
      have ne : ∀ x ∈ ps ++ [(v, L)], ∀ e, x.1 = V.ref e → e ≠ r := fun x hx e z => by
        rcases each x hx with h | h
        · exact ne3 x h e z
        · subst h
          exact neL e z
      refine ⟨_, _, ps ++ [(v, L)], rfl, ((C4.trans (Rdv.of s5) (Int.le_refl _)).mut S0 hr').mono (by omega), by rw [hid_oth nr nr, List.map_append]; exact upd_same, fun x hx => ?_, ne, by rw [List.map_append]; exact nf_snoc nf3 nfL hn', fun x hx => ?_, by rw [List.length_append]; exact Nat.succ_le_succ len3⟩
      · rw [hid_oth nr nr]
        refine LayAt.keep ?_ (ne x hx)
        rcases each x hx with h | h
        · exact (L4.same (hid_same s5)) x h
        · subst h
          exact lay.same (hid_same s5)
      · rcases each x hx with h | h
        · exact sm3 x h
        · subst h
          exact ⟨cL, conL⟩
    cases L with
    | pol ks =>
      obtain ⟨p, rfl, hp⟩ := lay
      refine ⟨_, rfl, _, _, _, _, false, rfl, .ty "tuple", .base (.lst (hid_get hp).1), kit_ty (by decide +kernel), false, rfl, iteT (iteT ?_)⟩
      exact ⟨_, rfl, .inl ⟨rfl, _, sql er⟩, _, rfl, r, _, _, rfl, rfl, er, size_lt (by omega), add _ (Same.refl _) fun A w n v' m _ z => by cases z⟩
    | con wt c =>
      obtain ⟨p, rfl, hp⟩ := lay
      refine ⟨_, rfl, _, _, _, _, true, rfl, .ty "tuple", .base (.tup (hid_get hp).1), kit_ty (by decide +kernel), true, rfl, iteF ?_⟩
      refine ⟨_, rfl, Nat.zero_le _, fun z hz => ?_⟩
      have sz := same_new (o := .lst []) hz
      have ez := upd_same (H := H4) (a := z) (o := .lst [])
      generalize upd H4 z (.lst []) = H5 at *
      have er5 := sz _ _ er
      refine ⟨.list ((ps.map Prod.snd).map Lay.dat), .list (([] : List Lay).map Lay.dat), dp_nest ((nest_lowP (pairs_nest e4 L4)).same sz), dp_nil (sql ez), shaped_lays _, shaped_lays _, _, rfl, ?_⟩
      rw [eqv_lays]
      have app : (∀ A w n v' m, ps.map Prod.snd = A ++ [.con w n] → Lay.con wt c = .con v' m → w ≠ v') → _ := fun hn' => add H5 sz hn'
      rcases List.eq_nil_or_concat ps with e | ⟨qs, x, e⟩
      · subst e
        refine iteT (iteT ?_)
        exact ⟨_, rfl, .inl ⟨rfl, _, sql er5⟩, _, rfl, r, _, _, rfl, rfl, er5, size_lt (by show 0 < 100000; decide), app fun A w n v' m z => absurd z (by simp)⟩
      · rw [List.concat_eq_append] at e
        have nb : laysB (ps.map Prod.snd) [] = false := by rw [e, List.map_append]; cases qs.map Prod.snd <;> rfl
        rw [nb]
        refine iteF ?_
        have hx : x ∈ ps := by rw [e]; exact List.mem_append_right _ List.mem_cons_self
        have el : ps.map Prod.fst = qs.map Prod.fst ++ [x.1] := by rw [e, List.map_append]; rfl
        have es : ps.map Prod.snd = qs.map Prod.snd ++ [x.2] := by rw [e, List.map_append]; rfl
        have hat : atI (ps.map Prod.fst) (-1) = some x.1 := by rw [el]; exact atI_last _ _
        have layx := (L4 x hx)
        obtain ⟨xv, xL⟩ := x
        cases xL with
        | pol ks =>
          obtain ⟨p2, e2, hp2⟩ := layx
          cases e2
          refine ⟨_, rfl, _, rfl, r, _, _, .ref p2, rfl, rfl, sql er5, hat, _, _, _, _, false, rfl, .ty "tuple", .base (.lst (sz _ _ (hid_get hp2).1)), kit_ty (by decide +kernel), false, rfl, iteT (iteT ?_)⟩
          exact ⟨_, rfl, .inl ⟨rfl, _, sql er5⟩, _, rfl, r, _, _, rfl, rfl, er5, size_lt (by omega), app fun A w n v' m z => by
            rw [es] at z
            have := (List.append_inj' z rfl).2
            cases this⟩
        | con w2 c2 =>
          obtain ⟨p2, e2, hp2⟩ := layx
          cases e2
          refine ⟨_, rfl, _, rfl, r, _, _, .ref p2, rfl, rfl, sql er5, hat, _, _, _, _, true, rfl, .ty "tuple", .base (.tup (sz _ _ (hid_get hp2).1)), kit_ty (by decide +kernel), true, rfl, iteF ?_⟩
          refine ⟨_, rfl, _, rfl, r, _, _, .ref p2, rfl, rfl, sql er5, hat, p2, _, 0, _, rfl, rfl, sqt (sz _ _ (hid_get hp2).1), rfl, _, rfl, p, _, 0, _, rfl, rfl, sqt (sz _ _ (hid_get hp).1), rfl, rfl, _, rfl, ?_⟩
          by_cases c0 : w2 = wt
          · subst c0
            rw [decide_eq_true rfl]
            refine iteF ?_
            obtain ⟨z3, z4, zs, h1, h2, h3, h4, h5, h6, h7, h8⟩ := skip
            exact ⟨z3, z4, zs, h1, (h2.trans (Rdv.of sz) (Int.le_refl _)).mono (by omega), hid_same sz _ _ h3, h4.same (hid_same sz), h5, h6, h7, h8⟩
          · rw [decide_eq_false fun z => c0 (by injection z)]
            refine iteT ?_
            exact ⟨_, rfl, .inl ⟨rfl, _, sql er5⟩, _, rfl, r, _, _, rfl, rfl, er5, size_lt (by omega), app fun A w n v' m z z2 => by
              rw [es] at z
              have := (List.append_inj' z rfl).2
              cases this
              cases z2
              exact c0⟩
  · obtain ⟨y3, y4, ps, rfl, A3, e3, L3, ne3, nf3, sm3, len3⟩ := h
    exact ⟨_, rfl, q H3 r ps (A3.mono (by omega)) hr' e3 L3 nf3 sm3 (by omega)⟩

end
end Rn
namespace Rn
open PySem PySem.Spec PyProof.Rows L2
section
variable {P : Program} {w : World} {K : PySem.W.Frag} {mg : Str → Option Value} {base : Heap}
def prodI (fs : List Int) : Int := fs.foldr (· * ·) 1
theorem prodI_cons (f : Int) (fs : List Int) : prodI (f :: fs) = f * prodI fs := rfl
theorem prodI_app : ∀ (fs gs : List Int), prodI (fs ++ gs) = prodI fs * prodI gs
  | [], gs => by show prodI gs = 1 * prodI gs; omega
  | f :: fs, gs => by rw [List.cons_append, prodI_cons, prodI_cons, prodI_app fs gs, Int.mul_assoc]
theorem prodI_pow : ∀ {fs : List Int}, (∀ f ∈ fs, 2 ≤ f) → (2 : Int) ^ fs.length ≤ prodI fs
  | [], _ => by decide
  | f :: fs, h => by
    have ih := prodI_pow fun g hg => h g (List.mem_cons_of_mem _ hg)
    have h2 := h f List.mem_cons_self
    rw [List.length_cons, Int.pow_succ, prodI_cons, Int.mul_comm]
    exact Int.mul_le_mul h2 ih (Int.le_of_lt (Int.pow_pos (by decide))) (by omega)
theorem prodI_few {fs : List Int} (h : ∀ f ∈ fs, 2 ≤ f) (hp : prodI fs ≤ 12) : fs.length ≤ 3 := by
  have h1 := prodI_pow h
  by_cases c : fs.length ≤ 3
  · exact c
  · exfalso
    have h3 : (2 : Nat) ^ 4 ≤ 2 ^ fs.length := Nat.pow_le_pow_right (by decide) (by omega)
    have h2 : ((2 ^ fs.length : Nat) : Int) = (2 : Int) ^ fs.length := by push_cast; rfl
    have h4 : (2 : Nat) ^ 4 = 16 := by decide
    omega
def sp_law_factors (K : PySem.W.Frag) : Sp := fun vs H Q _ => ∃ (a : Addr) (n size : Int), vs = [.ref a, .int size] ∧ Rng H a n ∧ n ≤ 1000000 ∧ 2 ≤ size ∧ size ≤ 12 ∧
  ∀ H' r fs, Rdv a 10 H H' → H r = none → hid a a H' r = some (.lst ((fs : List Int).map V.int)) → (∀ f ∈ fs, 2 ≤ f) → prodI fs = size → fs.length ≤ 3 → Q (.ref r) H'
theorem ok_law_factors (T : Txt K mg) : FnOk P w K mg base CX0 2 T.f_law_factors T.d_law_factors ["rng", "size"] (sp_law_factors K) := by
  have G_law_draw := (ok_law_draw (P := P) (w := w) (base := base) T)
  refine T.F_law_factors.ok sc_law_factors (fun vs H Q E h => ?_) (fun cdv A outer s H vs Q E hr h => ?_)
  · obtain ⟨a, n, size, rfl, _⟩ := h
    rfl
  obtain ⟨a, n, size, rfl, S0, hn, z2, z12, q⟩ := h
  refine ⟨_, (pss_cons (ps_par (i := 2) (j := 3) (by rfl) sc_law_factors.nd rfl rfl (by decide) rfl rfl (pa_cons (pv 1) (pa_cons (pe_lst pa_nil) pa_nil)) (by rfl))
      (pss_cons (ps_for PassesOwn.never rfl (pi_range2 (by rfl) T.m_range (pa_cons pe_int (pa_cons (pe_op op_add (pv 1) pe_int) pa_nil))) (pg_name (i := 4) sc_law_factors.nd rfl (Or.inl rfl))
      (pss_one (ps_while PassesOwn.never (pt_cmpR op_eq (pe_op op_mod (pv 2) (pv 4)) pe_int (nomark _))
      (pss_cons (ps_expr (pe_bm PySem.F.plainAttrs_list PySem.F.slot_list_insert PySem.F.type_list_insert mt_insert (pv 3) (pa_cons (pe_call G_law_draw hr (by rfl) T.g_law_draw T.F_law_draw.kp T.b_law_draw .nil pass0 (pa_cons (pv 0) (pa_cons (pe_op op_add (pe_callB call_len_seq (by rfl) T.m_len PySem.boot_len (pa_cons (pv 3) pa_nil)) pe_int) pa_nil))) (pa_cons (pv 4) pa_nil))))
      (pss_one (ps_set (i := 2) sc_law_factors.nd rfl (Or.inl rfl) (pe_op op_fdivW (pv 2) (pv 4))))))))
      (Evl.pss_cut (ps_if (PW.pt (pw_and (pt_cmpR op_gt (pe_callB call_len_seq (by rfl) T.m_len PySem.boot_len (pa_cons (pv 3) pa_nil)) pe_int (nomark _)) (pw_and1 (pt_cmpR op_eq (pe_call G_law_draw hr (by rfl) T.g_law_draw T.F_law_draw.kp T.b_law_draw .nil pass0 (pa_cons (pv 0) (pa_cons pe_int pa_nil))) pe_int (nomark _)))))
      (pss_one (ps_set (i := 3) sc_law_factors.nd rfl (Or.inl rfl) (pe_op op_cat (pe_lst (pa_cons (pe_op op_mulW (pe_ix ix_list (pv 3) pe_int (fun _ _ => rfl)) (pe_ix ix_list (pv 3) pe_int (fun _ _ => rfl))) pa_nil)) (pe_slice sl_list (pv 3) (po_some pe_int) po_none))))
      pss_nil)
      (pss_one (ps_ret (pv 3)))))), ?_⟩
  refine ⟨_, rfl, Nat.zero_le _, fun r hr' => ⟨_, _, rfl, ?_⟩⟩
  have nr := S0.new1 hr'
  have B1 : Rdv a 0 H (upd H r (.lst [])) := Rdv.of (same_new hr')
  have e1 : hid a a (upd H r (.lst [])) r = some (.lst (([] : List Int).map V.int)) := hid_at upd_same nr nr
  generalize upd H r (.lst []) = H1 at *
  refine ⟨_, rfl, _, _, rfl, rfl, _, _, rfl, ⟨by decide, by decide, by omega, by omega⟩, ?_⟩
  refine for_range (lo := 2) (n := (size + 1 - 2).toNat) (fun i σ H' => ∃ (left : Int) (fs : List Int) (y4 : Option V), σ = [some (.ref a), some (.int size), some (.int left), some (.ref r), y4] ∧ Rdv a fs.length H H' ∧ hid a a H' r = some (.lst (fs.map V.int)) ∧ (∀ f ∈ fs, 2 ≤ f) ∧ prodI fs * left = size ∧ 1 ≤ left ∧ ∀ d : Int, 2 ≤ d → d < 2 + i → left % d ≠ 0)
    ⟨size, [], none, rfl, B1.mono (by show (0 : Int) ≤ ((0 : Nat) : Int); omega), e1, (fun _ z => nomatch z), by show 1 * size = size; omega, by omega, fun d d1 d2 => absurd d2 (by omega)⟩ (fun i σ H2 hi h => ?_) (fun σ H2 h => ?_)
  · obtain ⟨left, fs, y4, rfl, A2, e2, f2, pr2, l1, nd⟩ := h
    refine while_by (fun σ H' => ∃ (left : Int) (fs : List Int), σ = [some (.ref a), some (.int size), some (.int left), some (.ref r), some (.int (2 + (i : Int)))] ∧ Rdv a fs.length H H' ∧ hid a a H' r = some (.lst (fs.map V.int)) ∧ (∀ f ∈ fs, 2 ≤ f) ∧ prodI fs * left = size ∧ 1 ≤ left ∧ ∀ d : Int, 2 ≤ d → d < 2 + i → left % d ≠ 0)
      (fun σ H' => match σ with | [_, _, some (.int z), _, _] => z.toNat | _ => 0) ⟨left, fs, rfl, A2, e2, f2, pr2, l1, nd⟩ (fun σ H' h => ?_) (fun σ H' Q Q' hq hc => ?_)
    · clear A2 e2 f2 pr2 l1 nd
      obtain ⟨left, fs, rfl, A2, e2, f2, pr2, l1, nd⟩ := h
      have S2 := A2.src _ S0
      have pw := prodI_pow f2
      have p1 : 1 ≤ prodI fs := by
        have : (0 : Int) < 2 ^ fs.length := Int.pow_pos (by decide)
        omega
      have ple : prodI fs ≤ 12 := by
        have : prodI fs * 1 ≤ prodI fs * left := Int.mul_le_mul_of_nonneg_left l1 (by omega)
        omega
      have few := prodI_few f2 ple
      have lf : (fs.map V.int).length = fs.length := List.length_map ..
      refine ⟨_, rfl, _, rfl, _, _, rfl, rfl, (show (0 : Int) < 2 + (i : Int) by omega), rfl, _, rfl, ite2 (fun e => ?_) (fun e => ?_)⟩
      · have e0 : left % (2 + (i : Int)) = 0 := by simpa using e
        refine ⟨_, rfl, .inl ⟨rfl, _, sql (hid_get e2).1⟩, _, rfl, _, rfl, r, _, rfl, .inl (sql (hid_get e2).1), _, _, rfl, rfl, a, _, _, rfl, S2, by omega, by omega, by omega, fun H3 at_ A3 a0 a1 => ?_⟩
        have e3 := A3.same _ _ e2
        obtain ⟨k, rfl⟩ := Int.eq_ofNat_of_zero_le a0
        refine ⟨_, rfl, r, _, (k : Int), _, rfl, rfl, (hid_get e3).1, size_lt (by omega), by omega, by omega, ?_⟩
        refine ⟨_, rfl, _, rfl, _, _, rfl, rfl, wide_div (b := 10) (by omega) (by omega) (by decide) (by decide), ?_⟩
        have p2 : (2 : Int) ≤ 2 + (i : Int) := by omega
        generalize (2 + (i : Int)) = p at *
        have lp : p * (left / p) = left := by
          have := Int.mul_ediv_add_emod left p
          omega
        have es : (fs.map V.int).take (k : Int).toNat ++ [V.int p] ++ (fs.map V.int).drop (k : Int).toNat = (fs.take k ++ [p] ++ fs.drop k).map V.int := by
          rw [Int.toNat_natCast, List.map_append, List.map_append, List.map_take, List.map_drop]
          rfl
        rw [es]
        have q1 : 1 ≤ left / p := by
          by_cases c : 1 ≤ left / p
          · exact c
          · exfalso
            have : p * (left / p) ≤ p * 0 := Int.mul_le_mul_of_nonneg_left (by omega) (by omega)
            omega
        have q2 : left / p < left := by
          have : 2 * (left / p) ≤ p * (left / p) := Int.mul_le_mul_of_nonneg_right p2 (by omega)
          omega
        have epr : prodI (fs.take k ++ [p] ++ fs.drop k) = prodI fs * p := by
          have h1 := congrArg prodI (List.take_append_drop k fs)
          rw [prodI_app] at h1
          rw [prodI_app, prodI_app, ← h1]
          show prodI _ * (p * 1) * prodI _ = _
          rw [Int.mul_one, Int.mul_assoc, Int.mul_comm p, Int.mul_assoc]
        have len : (fs.take k ++ [p] ++ fs.drop k).length = fs.length + 1 := by
          simp only [List.length_append, List.length_cons, List.length_nil, List.length_take, List.length_drop]
          omega
        refine ⟨⟨left / p, fs.take k ++ [p] ++ fs.drop k, rfl, ?_, by rw [hid_oth nr nr]; exact upd_same, fun f hf => ?_, ?_, q1, fun d d1 d2 z => ?_⟩, ?_⟩
        · rw [len]
          exact ((A2.trans A3 (Int.le_refl _)).mut S0 hr').mono (by push_cast; omega)
        · rcases List.mem_append.mp hf with z | z
          · rcases List.mem_append.mp z with z | z
            · exact f2 f (List.mem_of_mem_take z)
            · rw [List.mem_singleton.mp z]; exact p2
          · exact f2 f (List.mem_of_mem_drop z)
        · rw [epr, Int.mul_assoc, lp]
          exact pr2
        · refine nd d d1 d2 ?_
          have h1 : d ∣ left / p := Int.dvd_of_emod_eq_zero z
          have h2 : d ∣ p * (left / p) := Int.dvd_trans h1 (Int.dvd_mul_left _ _)
          rw [lp] at h2
          exact Int.emod_eq_zero_of_dvd h2
        · show (left / p).toNat < left.toNat
          omega
      · have e0 : ¬ left % (2 + (i : Int)) = 0 := by simpa using e
        refine ⟨left, fs, _, rfl, A2, e2, f2, pr2, l1, fun d d1 d2 => ?_⟩
        by_cases c : d = 2 + (i : Int)
        · rw [c]
          exact e0
        · exact nd d d1 (by omega)
    · obtain ⟨x1, g1, x2, g2, i1, j1, g3, g4, g5, g6, c, g7, z⟩ := hc
      exact ⟨x1, g1, x2, g2, i1, j1, g3, g4, g5, g6, c, g7, hq _ _ z⟩
  · obtain ⟨left, fs, y4, rfl, A2, e2, f2, pr2, l1, nd⟩ := h
    have pw := prodI_pow f2
    have p1 : 1 ≤ prodI fs := by
      have : (0 : Int) < 2 ^ fs.length := Int.pow_pos (by decide)
      omega
    have ll : left ≤ size := by
      have : 1 * left ≤ prodI fs * left := Int.mul_le_mul_of_nonneg_right p1 (by omega)
      omega
    have left1 : left = 1 := by
      by_cases c : left = 1
      · exact c
      · exact absurd (Int.emod_self (a := left)) (nd left (by omega) (by omega))
    subst left1
    have pr3 : prodI fs = size := by omega
    have few := prodI_few f2 (by omega)
    have S2 := A2.src _ S0
    have lf : (fs.map V.int).length = fs.length := List.length_map ..
    refine ⟨fun σ' H' => ∃ r' gs y4, σ' = [some (.ref a), some (.int size), some (.int 1), some (.ref r'), y4] ∧ Rdv a 10 H H' ∧ H r' = none ∧ hid a a H' r' = some (.lst ((gs : List Int).map V.int)) ∧ (∀ f ∈ gs, 2 ≤ f) ∧ prodI gs = size, ?_, fun σ' H' h => ?_⟩
    · refine ⟨_, rfl, r, _, rfl, .inl (sql (hid_get e2).1), _, _, rfl, rfl, _, rfl, ite2 (fun e => ?_) (fun e => iteF ⟨r, fs, _, rfl, A2.mono (by omega), hr', e2, f2, pr3⟩)⟩
      have l2 := of_decide_eq_true e
      rw [lf] at l2
      refine ⟨_, rfl, a, _, 2, rfl, S2, by omega, by decide, by decide, fun H3 r3 A3 _ _ => ⟨rfl, _, rfl, ite2 (fun _ => ?_) (fun _ => ⟨r, fs, _, rfl, (A2.trans A3 (Int.le_refl _)).mono (by omega), hr', A3.same _ _ e2, f2, pr3⟩)⟩⟩
      have e3 := A3.same _ _ e2
      have A3' := A2.trans A3 (Int.le_refl _)
      have S3 := A3.src _ S2
      have er := (hid_get e3).1
      match fs, l2, e3, er, f2, pr3 with
      | x :: y :: rest, _, e3, er, f2, pr3 =>
        have hx := f2 x List.mem_cons_self
        have hy := f2 y (List.mem_cons_of_mem _ List.mem_cons_self)
        have pr : 1 ≤ prodI rest := by
          have h1 := prodI_pow (fs := rest) fun f hf => f2 f (List.mem_cons_of_mem _ (List.mem_cons_of_mem _ hf))
          have : (0 : Int) < 2 ^ rest.length := Int.pow_pos (by decide)
          omega
        have yb : y * 1 ≤ y * prodI rest := Int.mul_le_mul_of_nonneg_left pr (by omega)
        have pr4 := pr3
        rw [prodI_cons, prodI_cons] at pr4
        have xb : x * 1 ≤ x * (y * prodI rest) := Int.mul_le_mul_of_nonneg_left (by omega) (by omega)
        have yb2 : 1 * (y * prodI rest) ≤ x * (y * prodI rest) := Int.mul_le_mul_of_nonneg_right (by omega) (by omega)
        refine ⟨_, rfl, r, _, 0, .int x, rfl, rfl, sql er, atI_nat (j := 0) rfl, _, rfl, r, _, 1, .int y, rfl, rfl, sql er, atI_nat (j := 1) rfl, _, _, rfl, rfl, wide_mul (a := 10) (b := 10) (by omega) (by omega) (by decide) (by decide) (by decide), size_le (by show 1 ≤ 100000; decide), fun c fc => ?_⟩
        have sc := same_new (o := .lst [.int (x * y)]) fc
        have ec := upd_same (H := H3) (a := c) (o := .lst [.int (x * y)])
        generalize upd H3 c (.lst [.int (x * y)]) = H4 at *
        refine ⟨_, rfl, _, rfl, r, _, rfl, sql (sc _ _ er), fun d fd => ?_⟩
        rw [show (some (2 : Int)) = some ((2 : Nat) : Int) from rfl, cut_to]
        have sd := same_new (o := .lst (rest.map V.int)) fd
        have ed : upd H4 d (.lst (((x :: y :: rest).map V.int).drop 2)) d = some (.lst (rest.map V.int)) := upd_same
        have sd' : Same H4 (upd H4 d (.lst (((x :: y :: rest).map V.int).drop 2))) := same_new fd
        generalize upd H4 d (.lst (((x :: y :: rest).map V.int).drop 2)) = H5 at *
        refine ⟨c, d, _, _, rfl, rfl, sd' _ _ ec, ed, size_le (by show 1 + (rest.map V.int).length ≤ 100000; rw [List.length_map]; have : (x :: y :: rest).length = rest.length + 2 := rfl; omega), fun g fg => ?_⟩
        have t5 := sc.trans sd'
        have t6 := t5.trans (same_new (o := .lst ([V.int (x * y)] ++ rest.map V.int)) fg)
        have fg3 := t5.free fg
        have ng := S3.new1 fg3
        refine ⟨g, x * y :: rest, _, rfl, (A3'.trans (Rdv.of t6) (Int.le_refl _)).mono (by omega), A3'.free S0 fg3, hid_at upd_same ng ng, fun f hf => ?_, ?_⟩
        · rcases List.mem_cons.mp hf with z | z
          · rw [z]
            have : 2 * 1 ≤ x * y := Int.mul_le_mul hx (by omega) (by decide) (by omega)
            omega
          · exact f2 f (List.mem_cons_of_mem _ (List.mem_cons_of_mem _ z))
        · rw [← pr3, prodI_cons, prodI_cons, prodI_cons, Int.mul_assoc]
    · obtain ⟨r', gs, y4, rfl, h1, h2, h3, h4, h5⟩ := h
      exact ⟨_, rfl, q H' r' gs h1 h2 h3 h4 h5 (prodI_few h4 (by omega))⟩

end
end Rn
namespace Rn
open PySem PySem.Spec PyProof.Rows L2
section
variable {P : Program} {w : World} {K : PySem.W.Frag} {mg : Str → Option Value} {base : Heap}
def Av (H : Hp) (ps : List (V × Lay)) (v : V) : Prop := ∀ d, H d ≠ none → (∀ y ∈ ps, y.1 ≠ V.ref d) → v ≠ V.ref d
theorem Av.new {H : Hp} {ps : List (V × Lay)} {e : Addr} (h : H e = none) : Av H ps (.ref e) := fun d hd _ z => by cases z; exact hd h
theorem Av.old {H : Hp} {ps : List (V × Lay)} {x : V × Lay} (h : x ∈ ps) : Av H ps x.1 := fun d _ hy => hy x h
def Wr (a r : Addr) (ps : List (V × Lay)) (c : Int) (H H' : Hp) (qs : List (V × Lay)) (F : List Int) : Prop := Rdv a c H H' ∧ hid a a H' r = some (.lst (qs.map Prod.fst)) ∧ LaysP (hid a a H') qs ∧ (∀ x ∈ qs, ∀ e, x.1 = V.ref e → e ≠ r) ∧ (∀ x ∈ qs, x.2.ok = true ∧ x.2.cnt ≤ 61) ∧ flatL (qs.map Prod.snd) = F ∧ ∀ x ∈ qs, Av H ps x.1
theorem Wr.step {a r : Addr} {ps : List (V × Lay)} {c c' e : Int} {H H1 H2 : Hp} {qs : List (V × Lay)} {F : List Int} (h : Wr a r ps c H H1 qs F) (A : Rdv a c' H1 H2) (he : c + c' ≤ e) : Wr a r ps e H H2 qs F :=
  ⟨h.1.trans A he, A.same _ _ h.2.1, h.2.2.1.same A.same, h.2.2.2⟩
theorem Wr.push {a r : Addr} {ps : List (V × Lay)} {c n : Int} {H H1 : Hp} {qs : List (V × Lay)} {F : List Int} {v : V} {L : Lay} (h : Wr a r ps c H H1 qs F) (S0 : Rng H a n) (fr : H r = none) (lay : LayAt (hid a a H1) v L) (ne : ∀ e, v = V.ref e → e ≠ r) (ok : L.ok = true) (cn : L.cnt ≤ 61) (av : Av H ps v) :
    Wr a r ps c H (upd H1 r (.lst (qs.map Prod.fst ++ [v]))) (qs ++ [(v, L)]) (nestL F L.waits) := by
  obtain ⟨h1, h2, h3, h4, h5, h6, h7⟩ := h
  have nr := S0.new1 fr
  have each : ∀ x ∈ qs ++ [(v, L)], x ∈ qs ∨ x = (v, L) := fun x hx => (List.mem_append.mp hx).elim .inl fun z => .inr (List.mem_singleton.mp z)
  have ne2 : ∀ x ∈ qs ++ [(v, L)], ∀ e, x.1 = V.ref e → e ≠ r := fun x hx e z => by
    rcases each x hx with h | h
    · exact h4 x h e z
    · subst h
      exact ne e z
  refine ⟨h1.mut S0 fr, by rw [hid_oth nr nr, List.map_append]; exact upd_same, fun x hx => ?_, ne2, fun x hx => ?_, ?_, fun x hx => ?_⟩
  · rw [hid_oth nr nr]
    refine LayAt.keep ?_ (ne2 x hx)
    rcases each x hx with h | h
    · exact h3 x h
    · subst h
      exact lay
  · rcases each x hx with h | h
    · exact h5 x h
    · subst h
      exact ⟨ok, cn⟩
  · rw [List.map_append, List.map_cons, List.map_nil, flatF (fun M hM => by obtain ⟨x, hx, rfl⟩ := List.mem_map.mp hM; exact (h5 x hx).1) L ok, h6]
  · rcases each x hx with h | h
    · exact h7 x h
    · subst h
      exact av
theorem prodI_le : ∀ {fs : List Int}, (∀ f ∈ fs, 2 ≤ f) → ∀ f ∈ fs, f ≤ prodI fs
  | g :: fs, h, f, hf => by
    have g2 := h g List.mem_cons_self
    have h1 := prodI_pow fun g hg => h g (List.mem_cons_of_mem _ hg)
    have : (0 : Int) < 2 ^ fs.length := Int.pow_pos (by decide)
    rw [prodI_cons]
    rcases List.mem_cons.mp hf with e | e
    · subst e
      have : f * 1 ≤ f * prodI fs := Int.mul_le_mul_of_nonneg_left (by omega) (by omega)
      omega
    · have ih := prodI_le (fun g hg => h g (List.mem_cons_of_mem _ hg)) f e
      have : 1 * prodI fs ≤ g * prodI fs := Int.mul_le_mul_of_nonneg_right (by omega) (by omega)
      omega
theorem facs {w : Int} (w0 : 0 ≤ w) : ∀ {fs : List Int}, (∀ f ∈ fs, 2 ≤ f) → (∀ L ∈ fs.map (Lay.con w), L.ok = true) ∧ flatL (fs.map (Lay.con w)) = List.replicate (prodI fs - 1).toNat w
  | [], _ => ⟨(fun _ z => nomatch z), rfl⟩
  | f :: fs, h => by
    obtain ⟨i1, i2⟩ := facs w0 fun g hg => h g (List.mem_cons_of_mem _ hg)
    have f2 := h f List.mem_cons_self
    have ok : ∀ L ∈ (f :: fs).map (Lay.con w), L.ok = true := fun L hL => by
      rcases List.mem_cons.mp hL with e | e
      · rw [e, Lay.ok_con, decide_eq_true w0, decide_eq_true (show 1 ≤ f by omega)]
        rfl
      · exact i1 L e
    refine ⟨ok, ?_⟩
    have h1 := prodI_pow fun g hg => h g (List.mem_cons_of_mem _ hg)
    have : (0 : Int) < 2 ^ fs.length := Int.pow_pos (by decide)
    have hm : f * 1 ≤ f * prodI fs := Int.mul_le_mul_of_nonneg_left (by omega) (by omega)
    rw [List.map_cons] at ok ⊢
    rw [flatL_cons ok, i2]
    show nestL (List.replicate (f - 1).toNat w) (List.replicate (prodI fs - 1).toNat w) = _
    rw [nest_rep, prodI_cons, show (f - 1).toNat + 1 = f.toNat by omega, show (prodI fs - 1).toNat + 1 = (prodI fs).toNat by omega, ← Int.toNat_mul (by omega) (by omega)]
    congr 1
    omega
def sp_law_written (K : PySem.W.Frag) : Sp := fun vs H Q _ => ∃ (a p : Addr) (n : Int) (ps : List (V × Lay)), vs = [.ref a, .ref p] ∧ Rng H a n ∧ n ≤ 600000 ∧ hid a a H p = some (.lst (ps.map Prod.fst)) ∧ LaysP (hid a a H) ps ∧ (∀ x ∈ ps, x.2.nf) ∧ Small ps ∧ ps.length ≤ 5 ∧
  ∀ H' r qs, Rdv a 1000 H H' → H r = none → hid a a H' r = some (.lst ((qs : List (V × Lay)).map Prod.fst)) → LaysP (hid a a H') qs → (∀ x ∈ qs, x.2.ok = true ∧ x.2.cnt ≤ 61) → qs.length ≤ 8 → flatL (qs.map Prod.snd) = flatL (ps.map Prod.snd) → (∀ x ∈ qs, Av H ps x.1) → Q (.ref r) H'
theorem ok_law_written (T : Txt K mg) : FnOk P w K mg base CX0 3 T.f_law_written T.d_law_written ["rng", "form"] (sp_law_written K) := by
  have G_law_draw := (ok_law_draw (P := P) (w := w) (base := base) T).mono (by decide : 1 ≤ 2)
  have G_law_wait := (ok_law_wait (P := P) (w := w) (base := base) T)
  have G_law_factors := (ok_law_factors (P := P) (w := w) (base := base) T)
  refine T.F_law_written.ok sc_law_written (fun vs H Q E h => ?_) (fun cdv A outer s H vs Q E hr h => ?_)
  · obtain ⟨a, p, n, ps, rfl, _⟩ := h
    rfl
  obtain ⟨a, p, n, ps, rfl, S0, hn, hP, hL, hF, hS, hl, q⟩ := h
  refine ⟨_, (pss_cons (ps_set (i := 2) sc_law_written.nd rfl (Or.inl rfl) (pe_lst pa_nil))
      (pss_cons (ps_for PassesOwn.never rfl (pi_list (pv 1)) (pg_name (i := 3) sc_law_written.nd rfl (Or.inr rfl))
      (pss_cons (ps_set (i := 4) sc_law_written.nd rfl (Or.inl rfl) (pe_lst (pa_cons (pv 3) pa_nil)))
      (Evl.pss_cut (ps_if (pt_val (pe_callB call_isi (by rfl) T.m_isinstance (by decide +kernel) (pa_cons (pv 3) (pa_cons (pe_bltn (v := .ty "tuple") (by rfl) T.m_tuple (by decide +kernel) rfl) pa_nil))))
      (pss_one (ps_setLc (i := 4) (own := [("size", 6)]) (g := gName 6) (tt := tYes) rfl sc_law_written.nd rfl rfl (sw_true rfl rfl rfl (by decide +kernel)) (pi_list (pe_call G_law_factors hr (by rfl) T.g_law_factors T.F_law_factors.kp T.b_law_factors .nil pass0 (pa_cons (pv 0) (pa_cons (pe_ix ix_tup (pv 3) pe_int (fun _ _ => rfl)) pa_nil)))) (blkOk_by (N := ["rng", "form", "found", "block", "parts", "part", "size"]) (sc := defScope s_law_written) (by decide +kernel)) (fun _ _ _ _ _ => (pg_name (i := 6) sc_law_written.nd rfl (Or.inl rfl))) (fun _ _ _ _ _ => pts_nil) (fun _ _ _ _ _ => (pe_tup (pa_cons (pe_ix (ix_tupK (K := K) rfl) (pv 3) pe_int (fun _ _ => rfl)) (pa_cons (pv 6) pa_nil))))))
      pss_nil)
      (pss_one (ps_for PassesOwn.never rfl (pi_list (pv 4)) (pg_name (i := 5) sc_law_written.nd rfl (Or.inl rfl))
      (Evl.pss_cut (ps_if (pt_cmpR op_eq (pe_call G_law_draw hr (by rfl) T.g_law_draw T.F_law_draw.kp T.b_law_draw .nil pass0 (pa_cons (pv 0) (pa_cons pe_int pa_nil))) pe_int (nomark _))
      (pss_one (ps_expr (pe_bm PySem.F.plainAttrs_list PySem.F.slot_list_append PySem.F.type_list_append mt_append (pv 2) (pa_cons (pe_ix ix_list (pe_lst (pa_cons (pe_lst pa_nil) (pa_cons (pe_tup (pa_cons (pe_call G_law_wait hr (by rfl) T.g_law_wait T.F_law_wait.kp T.b_law_wait .nil pass0 (pa_cons (pv 0) (pa_cons pe_int pa_nil))) (pa_cons pe_int pa_nil))) pa_nil))) (pe_call G_law_draw hr (by rfl) T.g_law_draw T.F_law_draw.kp T.b_law_draw .nil pass0 (pa_cons (pv 0) (pa_cons pe_int pa_nil))) (fun _ _ => rfl)) pa_nil))))
      pss_nil)
      (Evl.pss_cut (ps_if (PW.pt (pw_and (pt_val (pe_callB call_isi (by rfl) T.m_isinstance (by decide +kernel) (pa_cons (pv 5) (pa_cons (pe_bltn (v := .ty "tuple") (by rfl) T.m_tuple (by decide +kernel) rfl) pa_nil)))) (pw_and1 (pt_cmpR op_eq (pe_call G_law_draw hr (by rfl) T.g_law_draw T.F_law_draw.kp T.b_law_draw .nil pass0 (pa_cons (pv 0) (pa_cons pe_int pa_nil))) pe_int (nomark _)))))
      (pss_one (ps_set (i := 5) sc_law_written.nd rfl (Or.inl rfl) (pe_op op_rep (pe_lst (pa_cons (pe_ix ix_tup (pv 5) pe_int (fun _ _ => rfl)) pa_nil)) (pe_op op_sub (pe_ix ix_tup (pv 5) pe_int (fun _ _ => rfl)) pe_int))))
      pss_nil)
      (pss_one (ps_expr (pe_bm PySem.F.plainAttrs_list PySem.F.slot_list_append PySem.F.type_list_append mt_append (pv 2) (pa_cons (pv 5) pa_nil)))))))))))
      (pss_one (ps_ret (pe_ifExp (pt_cmpR op_le (pe_callB call_len_seq (by rfl) T.m_len PySem.boot_len (pa_cons (pv 2) pa_nil)) pe_int (nomark _)) (pv 2) (pe_callTy call_list_of (by rfl) T.m_list (by decide +kernel) (pa_cons (pv 1) pa_nil))))))), ?_⟩
  refine ⟨Nat.zero_le _, fun r hr' => ?_⟩
  have nr := S0.new1 hr'
  have neL := hL.ne (G := H) hr'
  have B1 : Rdv a 0 H (upd H r (.lst [])) := Rdv.of (same_new hr')
  have e1 : hid a a (upd H r (.lst [])) r = some (.lst (([] : List (V × Lay)).map Prod.fst)) := hid_at upd_same nr nr
  generalize upd H r (.lst []) = H1 at *
  have okP : ∀ L ∈ ps.map Prod.snd, L.ok = true := fun L hL => by obtain ⟨x, hx, rfl⟩ := List.mem_map.mp hL; exact (hF x hx).ok
  have lf : (ps.map Prod.fst).length = ps.length := List.length_map ..
  refine ⟨_, rfl, p, rfl, ⟨_, sql (hid_get (B1.same _ _ hP)).1⟩, for_list (xs := ps.map Prod.fst) (fun i σ H' => ∃ y3 y4 y5 y6 qs, σ = [some (.ref a), some (.ref p), some (.ref r), y3, y4, y5, y6] ∧ Wr a r ps (100 * i) H H' qs (flatL ((ps.take i).map Prod.snd)) ∧ qs.length ≤ 6 * i)
    ⟨none, none, none, none, [], rfl, ⟨B1.mono (by omega), e1, (fun _ z => nomatch z), (fun _ z => nomatch z), (fun _ z => nomatch z), rfl, (fun _ z => nomatch z)⟩, Nat.le_refl _⟩ (fun i σ H' _ h => by obtain ⟨_, _, _, _, _, _, W, _⟩ := h; exact sql (hid_get (W.1.same _ _ hP)).1) (fun i v σ H2 hx h => ?_) (fun σ H2 h => ?_)⟩
  · obtain ⟨y3, y4, y5, y6, qs, rfl, W2, len2⟩ := h
    have hi : i < ps.length := by rw [← lf]; exact (List.getElem?_eq_some_iff.mp hx).1
    rw [List.getElem?_map, List.getElem?_eq_getElem hi] at hx
    have mem := List.getElem_mem hi
    have tk : (ps.take (i + 1)).map Prod.snd = (ps.take i).map Prod.snd ++ [ps[i].2] := by
      rw [List.take_add_one, List.getElem?_eq_getElem hi, List.map_append]
      rfl
    have lay0 := hL _ mem
    have nfi := hF _ mem
    have smi := hS _ mem
    have nei := neL _ mem
    have avi : Av H ps ps[i].1 := Av.old mem
    have hv : v = ps[i].1 := (Option.some.inj hx).symm
    subst hv
    generalize ps[i] = x at *
    obtain ⟨v, L⟩ := x
    have S2 := W2.1.src _ S0
    have lay2 := lay0.same W2.1.same
    -- parts = [block]
    refine ⟨_, rfl, size_le (by show 1 ≤ 100000; decide), fun b hb => ?_⟩
    have sb := same_new (o := .lst [v]) hb
    have nb := S2.new1 hb
    have eb := upd_same (H := H2) (a := b) (o := .lst [v])
    have br : b ≠ r := fun z => by
      have := (hid_get W2.2.1).1
      rw [← z, hb] at this
      cases this
    have W3 := W2.step (Rdv.of sb) (Int.le_refl _)
    have lay3 := lay2.same (hid_same (a := a) (d := a) sb)
    generalize upd H2 b (.lst [v]) = H3 at *
    have S3 := W3.1.src _ S0
    refine ⟨fun σ' H' => ∃ (b : Addr) (rs : List (V × Lay)) (y6 : Option V), σ' = [some (.ref a), some (.ref p), some (.ref r), some v, some (.ref b), y5, y6] ∧ b ≠ r ∧ b ≠ a ∧ Wr a r ps (100 * i + 20) H H' qs (flatL ((ps.take i).map Prod.snd)) ∧ hid a a H' b = some (.lst (rs.map Prod.fst)) ∧ LaysP (hid a a H') rs ∧ (∀ x ∈ rs, ∀ e, x.1 = V.ref e → e ≠ r) ∧ (∀ x ∈ rs, x.2.ok = true ∧ x.2.cnt ≤ 29) ∧ rs.length ≤ 3 ∧ flatL (rs.map Prod.snd) = L.waits ∧ (∀ x ∈ rs, Av H ps x.1), ?_, fun σ' H4 h4 => ?_⟩
    · cases L with
      | pol ks =>
        obtain ⟨pk, rfl, hpk⟩ := lay3
        exact ⟨_, rfl, _, _, _, _, false, rfl, .ty "tuple", .base (.lst (hid_get hpk).1), kit_ty (by decide +kernel), false, rfl, iteF ⟨b, [(.ref pk, .pol ks)], _, rfl, br, nb, W3.step Rdv.refl (by omega), hid_at eb nb nb, fun x hx => by rw [List.mem_singleton.mp hx]; exact ⟨pk, rfl, hpk⟩, fun x hx e z => by rw [List.mem_singleton.mp hx] at z; exact nei e z, fun x hx => by rw [List.mem_singleton.mp hx]; exact ⟨nfi.ok, smi.1⟩, by show 1 ≤ 3; decide, flat_one nfi.ok, fun x hx => by rw [List.mem_singleton.mp hx]; exact avi⟩⟩
      | con wt c =>
        obtain ⟨pk, rfl, hpk⟩ := lay3
        have w0 : 0 ≤ wt := nfi.1
        have c2 : 2 ≤ c := nfi.2
        have c12 : c ≤ 12 := smi.2 wt c rfl
        refine ⟨_, rfl, _, _, _, _, true, rfl, .ty "tuple", .base (.tup (hid_get hpk).1), kit_ty (by decide +kernel), true, rfl, iteT ?_⟩
        refine ⟨_, rfl, _, rfl, pk, _, 1, _, rfl, rfl, sqt (hid_get hpk).1, rfl, a, _, c, rfl, S3, by omega, c2, c12, fun H4 g fs A4 fg eg f2 pr few => ⟨g, rfl, ⟨_, sql (hid_get eg).1⟩, fun D hD => ?_⟩⟩
        have W4 := W3.step A4 (Int.le_refl _)
        have S4 := W4.1.src _ S0
        have nD := S4.new1 hD
        have fD : H D = none := W4.1.free S0 hD
        have hp4 := A4.same _ _ hpk
        have Dr : D ≠ r := fun z => by
          have := (hid_get W4.2.1).1
          rw [← z, hD] at this
          cases this
        have gl : (fs.map V.int).length = fs.length := List.length_map ..
        have neD := W4.2.2.1.ne (G := H4) hD
        refine lc_list (K := K) (a := g) (xs := fs.map V.int) (fun j H' => ∃ us, Same (hid a a H4) (hid a a H') ∧ Wr a r ps (100 * i + 15) H H' qs (flatL ((ps.take i).map Prod.snd)) ∧ NestV N0 (hid a a H') D us ((fs.take j).map (Lay.con wt)) ∧ (∀ e, V.ref e ∈ us → e ≠ r ∧ H e = none))
          ⟨[], hid_same (same_new hD), (W4.step (Rdv.of (same_new hD)) (Int.le_refl _)).step Rdv.refl (by omega), NestV.nil (hid_at upd_same nD nD), (fun _ z => nomatch z)⟩ (fun j H' _ h => by obtain ⟨_, sm, _⟩ := h; exact sql (hid_get (sm _ _ eg)).1) (fun j y H5 hy h => ?_) (fun H5 h => ?_)
        · obtain ⟨us, sm, W5, hv5, ner⟩ := h
          have hj : j < fs.length := by rw [← gl]; exact (List.getElem?_eq_some_iff.mp hy).1
          rw [List.getElem?_map, List.getElem?_eq_getElem hj] at hy
          have hy' : y = .int fs[j] := (Option.some.inj hy).symm
          subst hy'
          have tf : (fs.take (j + 1)).map (Lay.con wt) = (fs.take j).map (Lay.con wt) ++ [Lay.con wt fs[j]] := by
            rw [List.take_add_one, List.getElem?_eq_getElem hj, List.map_append]
            rfl
          have S5 := W5.1.src _ S0
          refine ⟨rfl, _, rfl, pk, _, 0, _, rfl, rfl, sqt (hid_get (sm _ _ hp4)).1, rfl, _, rfl, size_le (by show 2 ≤ 100000; decide), fun t ft => ?_⟩
          have nt := S5.new1 ft
          have st := same_new (o := .tup [.int wt, .int fs[j]]) ft
          have et := upd_same (H := H5) (a := t) (o := .tup [.int wt, .int fs[j]])
          have tD : t ≠ D := fun z => by
            have := (hid_get hv5.1).1
            rw [← z, ft] at this
            cases this
          have tr : t ≠ r := fun z => by
            have := (hid_get W5.2.1).1
            rw [← z, ft] at this
            cases this
          generalize upd H5 t (.tup [.int wt, .int fs[j]]) = H6 at *
          have W6 := W5.step (Rdv.of st) (Int.le_refl _)
          have hv6 := hv5.same (hid_same (a := a) (d := a) st)
          have lus := hv6.2.1
          rw [List.length_map, List.length_take] at lus
          refine ⟨_, (hid_get hv6.1).1, size_lt (by omega), us ++ [.ref t], ?_, ?_, ?_, fun e he => ?_⟩
          · rw [hid_oth nD nD]
            exact same_keep (sm.trans (hid_same st)) (hid_none hD)
          · obtain ⟨w1, w2, w3, w4, w5⟩ := W6
            refine ⟨(w1.mut S0 fD).mono (by omega), by rw [hid_oth nD nD, upd_ne (fun z => Dr z.symm)]; exact w2, fun x hx => ?_, w4, w5⟩
            rw [hid_oth nD nD]
            exact (w3 x hx).keep (neD x hx)
          · rw [hid_oth nD nD, tf]
            exact hv6.push ⟨t, rfl, hid_at et nt nt⟩ tD rfl
          · rcases List.mem_append.mp he with z | z
            · exact ner e z
            · have := List.mem_singleton.mp z
              cases this
              exact ⟨tr, W5.1.free S0 ft⟩
        · obtain ⟨us, sm, W5, hv5, ner⟩ := h
          rw [gl, List.take_length] at hv5
          obtain ⟨rs, r1, r2, r3⟩ := nest_pairs hv5.nest
          have eus : us = rs.map Prod.fst := by
            have := hv5.1
            rw [r1] at this
            injection (Option.some.inj this) with this
            exact this.symm
          obtain ⟨fk, ff⟩ := facs w0 f2
          refine ⟨D, rs, _, rfl, Dr, nD, W5.step Rdv.refl (by omega), r1, r3, fun x hx e z => ?_, fun x hx => ?_, ?_, ?_, fun x hx => ?_⟩
          · exact (ner e (by rw [eus, ← z]; exact List.mem_map.mpr ⟨x, hx, rfl⟩)).1
          · have hm : x.2 ∈ fs.map (Lay.con wt) := by rw [r2]; exact List.mem_map.mpr ⟨x, hx, rfl⟩
            refine ⟨fk _ hm, ?_⟩
            obtain ⟨f, hf, ef⟩ := List.mem_map.mp hm
            rw [← ef]
            have := prodI_le f2 f hf
            show f ≤ 29
            omega
          · have := congrArg List.length r2
            rw [List.length_map, List.length_map] at this
            omega
          · rw [← r2, ff, pr]
            rfl
          · obtain ⟨e, ee⟩ := (r3 x hx).ref
            rw [ee]
            exact Av.new (ner e (by rw [eus, ← ee]; exact List.mem_map.mpr ⟨x, hx, rfl⟩)).2
    clear W3 W2 lay2 lay3 S3 S2 eb sb hb
    obtain ⟨b, rs, y6, rfl, br, nb, W4, hb4, lay4, ner, okr, lr, fr, avr⟩ := h4
    have lfr : (rs.map Prod.fst).length = rs.length := List.length_map ..
    refine ⟨_, rfl, b, rfl, ⟨_, sql (hid_get hb4).1⟩, for_list (xs := rs.map Prod.fst) (fun j σ H' => ∃ y5 qs', σ = [some (.ref a), some (.ref p), some (.ref r), some v, some (.ref b), y5, y6] ∧ Wr a r ps (100 * i + 20 + 10 * j) H H' qs' (nestL (flatL ((ps.take i).map Prod.snd)) (flatL ((rs.take j).map Prod.snd))) ∧ qs'.length ≤ 6 * i + 2 * j ∧ hid a a H' b = some (.lst (rs.map Prod.fst)) ∧ LaysP (hid a a H') rs)
      ⟨y5, qs, rfl, by
        show Wr a r ps (100 * i + 20 + 10 * ((0 : Nat) : Int)) H H4 qs (nestL (flatL ((ps.take i).map Prod.snd)) [])
        rw [nestL_nil]
        exact W4.step Rdv.refl (by omega), by omega, hb4, lay4⟩ (fun j σ H' _ h => by obtain ⟨_, _, _, _, _, hb, _⟩ := h; exact sql (hid_get hb).1) (fun j u σ H5 hu h => ?_) (fun σ H5 h => ?_)⟩
    · obtain ⟨y5', qs', rfl, W5, len5, hb5, lay5⟩ := h
      have hj : j < rs.length := by rw [← lfr]; exact (List.getElem?_eq_some_iff.mp hu).1
      rw [List.getElem?_map, List.getElem?_eq_getElem hj] at hu
      have memj := List.getElem_mem hj
      have tk2 : (rs.take (j + 1)).map Prod.snd = (rs.take j).map Prod.snd ++ [rs[j].2] := by
        rw [List.take_add_one, List.getElem?_eq_getElem hj, List.map_append]
        rfl
      have ok1 := okr _ memj
      have ne1 := ner _ memj
      have av1 := avr _ memj
      have lay1 : ∀ H' : Hp, LaysP (hid a a H') rs → LayAt (hid a a H') rs[j].1 rs[j].2 := fun H' h => h _ memj
      have hu' : u = rs[j].1 := (Option.some.inj hu).symm
      subst hu'
      have okT : ∀ M ∈ (rs.take j).map Prod.snd, M.ok = true := fun M hM => by
        obtain ⟨x, hx, rfl⟩ := List.mem_map.mp hM
        exact (okr x (List.mem_of_mem_take hx)).1
      generalize rs[j] = y at *
      obtain ⟨u, M⟩ := y
      generalize hF0 : nestL (flatL ((ps.take i).map Prod.snd)) (flatL ((rs.take j).map Prod.snd)) = F at *
      have i5 : (i : Int) < 5 := by omega
      have j3 : (j : Int) < 3 := by omega
      have S5 := W5.1.src _ S0
      have keepb : ∀ {H' : Hp} {o : HO}, hid a a H' b = some (.lst (rs.map Prod.fst)) → hid a a (upd H' r o) b = some (.lst (rs.map Prod.fst)) := fun h => by rw [hid_oth nr nr, upd_ne br]; exact h
      have keepl : ∀ {H' : Hp} {o : HO}, LaysP (hid a a H') rs → LaysP (hid a a (upd H' r o)) rs := fun h x hx => by rw [hid_oth nr nr]; exact (h x hx).keep (ner x hx)
      have lqs : ∀ qs : List (V × Lay), (qs.map Prod.fst).length = qs.length := fun qs => List.length_map ..
      refine ⟨fun σ' H' => ∃ qs2, σ' = [some (.ref a), some (.ref p), some (.ref r), some v, some (.ref b), some u, y6] ∧ Wr a r ps (100 * i + 20 + 10 * j + 5) H H' qs2 F ∧ qs2.length ≤ qs'.length + 1 ∧ hid a a H' b = some (.lst (rs.map Prod.fst)) ∧ LaysP (hid a a H') rs, ?_, fun σ' H6 h6 => ?_⟩
      · refine ⟨_, rfl, a, _, 4, rfl, S5, by omega, by decide, by decide, fun H6 r6 A6 _ _ => ⟨rfl, _, rfl, ite2 (fun _ => ?_) (fun _ => ⟨qs', rfl, W5.step A6 (by omega), by omega, A6.same _ _ hb5, lay5.same A6.same⟩)⟩⟩
        have W6 := W5.step A6 (Int.le_refl _)
        have S6 := W6.1.src _ S0
        refine ⟨_, rfl, .inl ⟨rfl, _, sql (hid_get W6.2.1).1⟩, Nat.zero_le _, fun b1 h1 => ?_⟩
        have n1 := S6.new1 h1
        have s7 := same_new (o := .lst []) h1
        have g1 : hid a a (upd H6 b1 (.lst [])) b1 = some (.lst (([] : List Int).map V.int)) := hid_at upd_same n1 n1
        have r1 : b1 ≠ r := fun z => by
          have := (hid_get W6.2.1).1
          rw [← z, h1] at this
          cases this
        generalize upd H6 b1 (.lst []) = H7 at *
        have W7 := W6.step (Rdv.of s7) (Int.le_refl _)
        have S7 := W7.1.src _ S0
        refine ⟨_, rfl, a, _, 3, rfl, S7, by omega, by decide, by decide, fun H8 w A8 w0 w1 => ⟨size_le (by show 2 ≤ 100000; decide), fun t ft => ?_⟩⟩
        have W8 := W7.step A8 (Int.le_refl _)
        have S8 := W8.1.src _ S0
        have nt := S8.new1 ft
        have s9 := same_new (o := .tup [.int w, .int 1]) ft
        have gt : hid a a (upd H8 t (.tup [.int w, .int 1])) t = some (.tup [.int w, .int 1]) := hid_at upd_same nt nt
        have rt : t ≠ r := fun z => by
          have := (hid_get W8.2.1).1
          rw [← z, ft] at this
          cases this
        generalize upd H8 t (.tup [.int w, .int 1]) = H9 at *
        have W9 := W8.step (Rdv.of s9) (Int.le_refl _)
        refine ⟨size_le (by show 2 ≤ 100000; decide), fun o ho => ?_⟩
        have no := (W9.1.src _ S0).new1 ho
        have s10 := same_new (o := .lst [.ref b1, .ref t]) ho
        have go : hid a a (upd H9 o (.lst [.ref b1, .ref t])) o = some (.lst [.ref b1, .ref t]) := hid_at upd_same no no
        generalize upd H9 o (.lst [.ref b1, .ref t]) = H10 at *
        have W10 := W9.step (Rdv.of s10) (Int.le_refl _)
        have S10 := W10.1.src _ S0
        refine ⟨_, rfl, a, _, 2, rfl, S10, by omega, by decide, by decide, fun H11 k A11 k0 k1 => ?_⟩
        have W11 := W10.step A11 (Int.le_refl _)
        have hs : Same (hid a a H6) (hid a a H11) := (((hid_same s7).trans A8.same).trans ((hid_same s9).trans (hid_same s10))).trans A11.same
        have g1' := A11.same _ _ (hid_same s10 _ _ (hid_same s9 _ _ (A8.same _ _ g1)))
        have gt' := A11.same _ _ (hid_same s10 _ _ gt)
        have go' := (hid_get (A11.same _ _ go)).1
        have hb11 := hs _ _ (A6.same _ _ hb5)
        have lay11 := (lay5.same A6.same).same hs
        have er := (hid_get W11.2.1).1
        have kk : k = 0 ∨ k = 1 := by omega
        rcases kk with e | e
        · subst e
          refine ⟨o, _, 0, .ref b1, rfl, rfl, sql go', rfl, r, _, _, rfl, rfl, er, size_lt (by rw [lqs]; omega), qs' ++ [(.ref b1, .pol [])], rfl, ?_, by rw [List.length_append]; exact Nat.le_refl _, keepb hb11, keepl lay11⟩
          have := W11.push S0 hr' (L := .pol []) ⟨b1, rfl, g1'⟩ (fun e z => by cases z; exact r1) rfl (by decide) (Av.new (W6.1.free S0 h1))
          rw [show nestL F (Lay.pol []).waits = F from nestL_nil F] at this
          exact this.step Rdv.refl (by omega)
        · subst e
          refine ⟨o, _, 1, .ref t, rfl, rfl, sql go', atI_nat (j := 1) rfl, r, _, _, rfl, rfl, er, size_lt (by rw [lqs]; omega), qs' ++ [(.ref t, .con w 1)], rfl, ?_, by rw [List.length_append]; exact Nat.le_refl _, keepb hb11, keepl lay11⟩
          have := W11.push S0 hr' (L := .con w 1) ⟨t, rfl, gt'⟩ (fun e z => by cases z; exact rt) (by rw [Lay.ok_con, decide_eq_true w0]; rfl) (by show (1 : Int) ≤ 61; decide) (Av.new (W8.1.free S0 ft))
          rw [show nestL F (Lay.con w 1).waits = F from nestL_nil F] at this
          exact this.step Rdv.refl (by omega)
      obtain ⟨qs2, rfl, W6, len6, hb6, lay6⟩ := h6
      have S6 := W6.1.src _ S0
      refine ⟨fun σ' H' => ∃ v' M', σ' = [some (.ref a), some (.ref p), some (.ref r), some v, some (.ref b), some v', y6] ∧ LayAt (hid a a H') v' M' ∧ (∀ e, v' = V.ref e → e ≠ r) ∧ M'.ok = true ∧ M'.cnt ≤ 29 ∧ M'.waits = M.waits ∧ Av H ps v' ∧ Wr a r ps (100 * i + 20 + 10 * j + 8) H H' qs2 F ∧ hid a a H' b = some (.lst (rs.map Prod.fst)) ∧ LaysP (hid a a H') rs, ?_, fun σ' H7 h7 => ?_⟩
      · have l6 := lay1 _ lay6
        cases M with
        | pol ks =>
          obtain ⟨pk, rfl, hpk⟩ := id l6
          exact ⟨_, rfl, _, _, _, _, false, rfl, .ty "tuple", .base (.lst (hid_get hpk).1), kit_ty (by decide +kernel), false, rfl, iteF (iteF ⟨_, .pol ks, rfl, l6, ne1, ok1.1, ok1.2, rfl, av1, W6.step Rdv.refl (by omega), hb6, lay6⟩)⟩
        | con wt c =>
          obtain ⟨pk, rfl, hpk⟩ := id l6
          have c29 : c ≤ 29 := ok1.2
          have okc := ok1.1
          rw [Lay.ok_con, Bool.and_eq_true] at okc
          have w0 := of_decide_eq_true okc.1
          have c1 := of_decide_eq_true okc.2
          refine ⟨_, rfl, _, _, _, _, true, rfl, .ty "tuple", .base (.tup (hid_get hpk).1), kit_ty (by decide +kernel), true, rfl, iteT ?_⟩
          refine ⟨_, rfl, a, _, 2, rfl, S6, by omega, by decide, by decide, fun H7 r7 A7 _ _ => ⟨rfl, _, rfl, ite2 (fun _ => ?_) (fun _ => ⟨_, .con wt c, rfl, lay1 _ (lay6.same A7.same), ne1, ok1.1, ok1.2, rfl, av1, W6.step A7 (by omega), A7.same _ _ hb6, lay6.same A7.same⟩)⟩⟩
          have W7 := W6.step A7 (Int.le_refl _)
          have hp7 := (hid_get (A7.same _ _ hpk)).1
          have S7 := W7.1.src _ S0
          refine ⟨_, rfl, pk, _, 0, _, rfl, rfl, sqt hp7, rfl, size_le (by show 1 ≤ 100000; decide), fun o ho => ?_⟩
          have so := same_new (o := .lst [.int wt]) ho
          refine ⟨_, rfl, pk, _, 1, _, rfl, rfl, sqt (so _ _ hp7), rfl, _, _, rfl, rfl, o, _, _, rfl, rfl, upd_same, by omega, by omega, size_le (by show 1 * (c - 1).toNat ≤ 100000; omega), fun g fg => ?_⟩
          rw [rep_flat]
          have sg := so.trans (same_new (o := .lst (List.replicate (c - 1).toNat (V.int wt))) fg)
          have eg : upd (upd H7 o (.lst [.int wt])) g (.lst (List.replicate (c - 1).toNat (V.int wt))) g = some (.lst ((List.replicate (c - 1).toNat wt).map V.int)) := by rw [upd_same, List.map_replicate]
          have fg7 := so.free fg
          generalize upd (upd H7 o (.lst [.int wt])) g (.lst (List.replicate (c - 1).toNat (V.int wt))) = H8 at *
          have ng := S7.new1 fg7
          have gr : g ≠ r := fun z => by
            have := (hid_get W7.2.1).1
            rw [← z, fg7] at this
            cases this
          refine ⟨.ref g, .pol (List.replicate (c - 1).toNat wt), rfl, ⟨g, rfl, hid_at eg ng ng⟩, fun e z => by cases z; exact gr, ?_, ?_, rfl, Av.new (W7.1.free S0 fg7), (W7.step (Rdv.of sg) (Int.le_refl _)).step Rdv.refl (by omega), hid_same sg _ _ (A7.same _ _ hb6), (lay6.same A7.same).same (hid_same sg)⟩
          · rw [Lay.ok_pol, List.all_eq_true]
            exact fun x hx => decide_eq_true (by rw [(List.mem_replicate.mp hx).2]; exact w0)
          · show ((List.replicate (c - 1).toNat wt).length : Int) + 1 ≤ 29
            rw [List.length_replicate]
            omega
      obtain ⟨v', M', rfl, lay7, ne7, ok7, cnt7, w7, av7, W7, hb7, layr7⟩ := h7
      have er := (hid_get W7.2.1).1
      have := W7.push S0 hr' lay7 ne7 ok7 (by omega) av7
      refine ⟨_, rfl, .inl ⟨rfl, _, sql er⟩, _, rfl, r, _, _, rfl, rfl, er, size_lt (by rw [lqs]; omega), some v', qs2 ++ [(v', M')], rfl, ?_, by rw [List.length_append]; show qs2.length + 1 ≤ _; omega, keepb hb7, keepl layr7⟩
      have e3 : nestL F M'.waits = nestL (flatL ((ps.take i).map Prod.snd)) (flatL ((rs.take (j + 1)).map Prod.snd)) := by
        rw [w7, tk2, flatF okT M ok1.1, ← nestL_assoc, hF0]
      rw [← e3]
      exact this.step Rdv.refl (by push_cast; omega)
    · obtain ⟨y5', qs', rfl, W5, len5, hb5, lay5⟩ := h
      rw [lfr, List.take_length] at W5
      refine ⟨_, _, _, _, qs', rfl, ?_, by omega⟩
      rw [tk, flatF (fun M hM => okP M (by
        obtain ⟨x, hx, rfl⟩ := List.mem_map.mp hM
        exact List.mem_map.mpr ⟨x, List.mem_of_mem_take hx, rfl⟩)) L nfi.ok, ← fr]
      exact W5.step Rdv.refl (by push_cast; omega)
  · obtain ⟨y3, y4, y5, y6, qs, rfl, W2, len2⟩ := h
    rw [lf, List.take_length] at W2
    have lqs : (qs.map Prod.fst).length = qs.length := List.length_map ..
    have er := (hid_get W2.2.1).1
    refine ⟨_, rfl, r, _, rfl, .inl (sql er), _, _, rfl, rfl, _, rfl, ite2 (fun e => ?_) (fun e => ?_)⟩
    · have e' := of_decide_eq_true e
      rw [lqs] at e'
      obtain ⟨w1, w2, w3, w4, w5, w6, w7⟩ := W2
      exact ⟨_, rfl, q H2 r qs (w1.mono (by omega)) hr' w2 w3 w5 (by omega) w6 w7⟩
    · have hp2 := W2.1.same _ _ hP
      refine ⟨_, rfl, p, _, rfl, .inl (sql (hid_get hp2).1), fun g fg => ?_⟩
      have sg := same_new (o := .lst (ps.map Prod.fst)) fg
      have ng := (W2.1.src _ S0).new1 fg
      exact q _ g ps ((W2.1.trans (Rdv.of sg) (Int.le_refl _)).mono (by omega)) (W2.1.free S0 fg) (hid_at upd_same ng ng) ((hL.same W2.1.same).same (hid_same sg)) (fun x hx => ⟨(hF x hx).ok, by have := (hS x hx).1; omega⟩) (by omega) rfl fun x hx => Av.old hx

end
end Rn
namespace Rn
open PySem PySem.Spec PyProof.Rows L2
section
variable {P : Program} {w : World} {K : PySem.W.Frag} {mg : Str → Option Value} {base : Heap}
theorem not_flat2 {ns : List Int} {x y : Int} (hx : x ∈ ns) (hy : y ∈ ns) (h : x ≠ y) : ¬ Flat1 ns := fun ⟨w, hw⟩ => by
  rw [hw] at hx hy
  exact h ((List.mem_replicate.mp hx).2.trans (List.mem_replicate.mp hy).2.symm)
theorem prime_row2 {ns : List Int} (hl : ns.length ∈ [2, 4, 6, 10, 12, 16, 18, 22, 28]) {x y : Int} (hx : x ∈ ns) (hy : y ∈ ns) (h : x ≠ y) (h0 : ∀ z ∈ ns, 0 ≤ z) : (Lay.pol ns).nf := by
  refine ⟨⟨List.length_pos_of_mem hx, fun j j1 j2 => inn_false fun z => ?_⟩, not_flat2 hx hy h, h0⟩
  have hd : j ∣ ns.length + 1 := (per_c.mp z).2.1
  generalize ns.length = k at *
  have key : ∀ k ∈ [2, 4, 6, 10, 12, 16, 18, 22, 28], ∀ j < 30, 1 < j → j < k + 1 → ¬ j ∣ k + 1 := by decide +kernel
  have k28 : k ≤ 28 := by
    have : ∀ k ∈ [2, 4, 6, 10, 12, 16, 18, 22, 28], k ≤ 28 := by decide
    exact this k hl
  exact key k hl j (by omega) (by omega) (by omega) hd
theorem big2 {Ls : List Lay} (h0 : 0 ≤ attOf Ls) (h : attOf Ls ≤ 100000) : (attOf Ls).natAbs < 2 ^ 9000 := Nat.lt_of_lt_of_le (show (attOf Ls).natAbs < 2 ^ 17 by omega) (Nat.pow_le_pow_right (by decide) (by decide))
def sp_law_long_right (K : PySem.W.Frag) : Sp := fun vs H Q _ => ∃ (a : Addr) (n : Int), vs = [.ref a] ∧ Rng H a n ∧ n ≤ 900000 ∧ ∀ H', Rdv a 100 H H' → Q (.bl true) H'
theorem ok_law_long_right (T : Txt K mg) : FnOk P w K mg base CX0 8 T.f_law_long_right T.d_law_long_right ["rng"] (sp_law_long_right K) := by
  have G_law_draw := (ok_law_draw (P := P) (w := w) (base := base) T).mono (by decide : 1 ≤ 7)
  have G_law_wait := (ok_law_wait (P := P) (w := w) (base := base) T).mono (by decide : 2 ≤ 7)
  have G_law_flat := (ok_law_flat (P := P) (w := w) (base := base) T).mono (by decide : 1 ≤ 7)
  have G_normal_form := (ok_normal_form (P := P) (w := w) (base := base) T).mono (by decide : 6 ≤ 7)
  have G_same_policy := (ok_same_policy (P := P) (w := w) (base := base) T)
  refine T.F_law_long_right.ok sc_law_long_right (fun vs H Q E h => ?_) (fun cdv A outer s H vs Q E hr h => ?_)
  · obtain ⟨a, n, rfl, _⟩ := h
    rfl
  obtain ⟨a, n, rfl, S0, hn, q⟩ := h
  refine ⟨_, (pss_cons (ps_setLc (i := 1) (own := [("turn", 4)]) (g := gName 4) (tt := tYes) rfl sc_law_long_right.nd rfl rfl (sw_true rfl rfl rfl (by decide +kernel)) (pi_range1 (by rfl) T.m_range (pa_cons (pe_ix ix_list (pe_lst (pa_cons pe_int (pa_cons pe_int (pa_cons pe_int (pa_cons pe_int pa_nil))))) (pe_call G_law_draw hr (by rfl) T.g_law_draw T.F_law_draw.kp T.b_law_draw .nil pass0 (pa_cons (pv 0) (pa_cons pe_int pa_nil))) (fun _ _ => rfl)) pa_nil)) (blkOk_by (N := ["rng", "row", "form", "layers", "turn"]) (sc := defScope s_law_long_right) (by decide +kernel)) (fun _ _ _ _ _ => (pg_name (i := 4) sc_law_long_right.nd rfl (Or.inl rfl))) (fun _ _ _ _ _ => pts_nil) (fun _ _ _ _ _ => (pe_call G_law_wait hr (by rfl) T.g_law_wait T.F_law_wait.kp T.b_law_wait .nil pass0 (pa_cons (pv 0) (pa_cons pe_int pa_nil)))))
      (pss_cons (ps_asg (pe_op op_add (pe_ix ix_list (pv 1) pe_int (fun _ _ => rfl)) pe_int) (pg_sub (pv 1) (pe_un un_neg pe_int) set_list))
      (pss_cons (ps_set (i := 2) sc_law_long_right.nd rfl (Or.inl rfl) (pe_lst (pa_cons (pv 1) (pa_cons (pe_tup (pa_cons (pe_call G_law_wait hr (by rfl) T.g_law_wait T.F_law_wait.kp T.b_law_wait .nil pass0 (pa_cons (pv 0) (pa_cons pe_int pa_nil))) (pa_cons pe_int pa_nil))) pa_nil))))
      (pss_cons (ps_set (i := 3) sc_law_long_right.nd rfl (Or.inl rfl) (pe_lst (pa_cons (pe_call G_law_flat hr (by rfl) T.g_law_flat T.F_law_flat.kp T.b_law_flat .nil pass0 (pa_cons (pv 2) pa_nil)) pa_nil)))
      (pss_one (ps_ret (pe_and (pe_cmpR (op_eqD hr.units) (pe_call G_normal_form hr (by rfl) T.g_normal_form T.F_normal_form.kp T.b_normal_form .nil pass0 (pa_cons (pv 3) pa_nil)) (pv 2) (nomark _)) (pe_and (pe_call G_same_policy hr (by rfl) T.g_same_policy T.F_same_policy.kp T.b_same_policy .nil pass0 (pa_cons (pv 2) (pa_cons (pv 3) pa_nil))) (pe_one (pe_not (pe_call G_same_policy hr (by rfl) T.g_same_policy T.F_same_policy.kp T.b_same_policy .nil pass0 (pa_cons (pe_lst (pa_cons (pv 1) pa_nil)) (pa_cons (pv 3) pa_nil))))))))))))), ?_⟩
  refine ⟨size_le (by show 4 ≤ 100000; decide), fun o ho => ?_⟩
  have no := S0.new1 ho
  have B0 : Rdv a 0 H (upd H o (.lst [.int 16, .int 18, .int 22, .int 28])) := Rdv.of (same_new ho)
  have e0 : hid a a (upd H o (.lst [.int 16, .int 18, .int 22, .int 28])) o = some (.lst (([16, 18, 22, 28] : List Int).map V.int)) := by
    rw [hid_oth no no, upd_same]
    rfl
  generalize upd H o (.lst [.int 16, .int 18, .int 22, .int 28]) = H3 at *
  have S3 := B0.src _ S0
  refine ⟨_, rfl, a, _, 4, rfl, S3, by omega, by decide, by decide, fun H4 r4 A4 l4 u4 => ?_⟩
  obtain ⟨sz, hsz, _, hat⟩ := at_int (ns := [16, 18, 22, 28]) l4 u4
  have sb : 16 ≤ sz ∧ sz ≤ 28 := by simp at hsz; omega
  have hpr : sz.toNat ∈ [2, 4, 6, 10, 12, 16, 18, 22, 28] := by
    simp only [List.mem_cons, List.not_mem_nil, or_false] at hsz ⊢
    omega
  have S4 := A4.src _ S3
  have C4 := B0.trans A4 (Int.le_refl _)
  refine ⟨o, _, r4, .int sz, rfl, rfl, sql (hid_get (A4.same _ _ e0)).1, hat, _, rfl, by omega, by omega, fun D hD => ?_⟩
  have nD := S4.new1 hD
  have fD : H D = none := C4.free S0 hD
  refine lc_range (lo := 0) (n := sz.toNat) (fun i H' => ∃ ks : List Int, hid a a H' D = some (.lst (ks.map V.int)) ∧ ks.length = i ∧ (∀ x ∈ ks, 0 ≤ x) ∧ Rdv a (10 + i) H H')
    ⟨[], by rw [hid_oth nD nD, upd_same]; rfl, rfl, (fun _ z => nomatch z), (C4.trans (Rdv.of (same_new hD)) (Int.le_refl _)).mono (by omega)⟩ (fun i H5 hi h => ?_) (fun H5 h => ?_)
  · obtain ⟨ks, hk, hkl, hkb, A5⟩ := h
    have S5 := A5.src _ S0
    refine ⟨rfl, _, rfl, a, _, 3, rfl, S5, by omega, by decide, by decide, fun H6 x A6 l6 u6 => ?_⟩
    refine ⟨_, (hid_get (A6.same _ _ hk)).1, size_lt (by rw [List.length_map]; omega), ks ++ [x], by rw [hid_oth nD nD, upd_same, List.map_append]; rfl, by rw [List.length_append, hkl]; rfl, fun y hy => ?_, ((A5.trans A6 (Int.le_refl _)).mut S0 fD).mono (by omega)⟩
    rcases List.mem_append.mp hy with z | z
    · exact hkb y z
    · rw [List.mem_singleton.mp z]
      exact l6
  · obtain ⟨ks, hk, hkl, hkb, A5⟩ := h
    have k0 : 0 < ks.length := by omega
    have lk : (ks.map V.int).length = ks.length := List.length_map ..
    refine ⟨_, rfl, D, _, 0, _, rfl, rfl, sql (hid_get hk).1, atI_nat (j := 0) (map_get (List.getElem?_eq_getElem k0)), _, _, rfl, rfl, ?_⟩
    refine ⟨_, rfl, _, rfl, D, _, -1, ks.length - 1, rfl, rfl, (hid_get hk).1, by rw [ixN_last (by omega), lk], ?_⟩
    have es : (ks.map V.int).set (ks.length - 1) (V.int (ks[0] + 1)) = (ks.set (ks.length - 1) (ks[0] + 1)).map V.int := by rw [List.map_set]
    have h1 : ks[0] ∈ ks.set (ks.length - 1) (ks[0] + 1) := by
      have hne : ks.length - 1 ≠ 0 := by omega
      have : (ks.set (ks.length - 1) (ks[0] + 1))[0]? = some ks[0] := by
        rw [List.getElem?_set_ne hne, List.getElem?_eq_getElem k0]
      exact List.mem_of_getElem? this
    have h2 : ks[0] + 1 ∈ ks.set (ks.length - 1) (ks[0] + 1) := List.mem_set (by omega) _
    have p0 := hkb _ (List.getElem_mem k0)
    have hnf := prime_row2 (ns := ks.set (ks.length - 1) (ks[0] + 1)) (by rw [List.length_set, hkl]; exact hpr) h1 h2 (by omega) fun z hz => by
      rcases List.mem_or_eq_of_mem_set hz with z' | z'
      · exact hkb z z'
      · omega
    have eD : hid a a (upd H5 D (.lst ((ks.set (ks.length - 1) (ks[0] + 1)).map V.int))) D = some (.lst ((ks.set (ks.length - 1) (ks[0] + 1)).map V.int)) := by rw [hid_oth nD nD]; exact upd_same
    have A6 := A5.mut (o := .lst ((ks.set (ks.length - 1) (ks[0] + 1)).map V.int)) S0 fD
    have lr : (ks.set (ks.length - 1) (ks[0] + 1)).length = sz.toNat := by rw [List.length_set, hkl]
    rw [es]
    clear es
    generalize ks.set (ks.length - 1) (ks[0] + 1) = row at *
    generalize upd H5 D (.lst (row.map V.int)) = H6 at *
    have S6 := A6.src _ S0
    refine ⟨_, rfl, _, rfl, a, _, 6, rfl, S6, by omega, by decide, by decide, fun H7 w A7 w0 w1 => ⟨size_le (by show 2 ≤ 100000; decide), fun t ft => ⟨size_le (by show 2 ≤ 100000; decide), fun fo hfo => ?_⟩⟩⟩
    have C7 := A6.trans A7 (Int.le_refl _)
    have eD7 := (hid_get (A7.same _ _ eD)).1
    have st := same_new (o := .tup [.int w, .int 2]) ft
    have et := upd_same (H := H7) (a := t) (o := .tup [.int w, .int 2])
    generalize upd H7 t (.tup [.int w, .int 2]) = H8 at *
    have sf := same_new (o := .lst [.ref D, .ref t]) hfo
    have ef := upd_same (H := H8) (a := fo) (o := .lst [.ref D, .ref t])
    have gD := sf _ _ (st _ _ eD7)
    have gt := sf _ _ et
    generalize upd H8 fo (.lst [.ref D, .ref t]) = H9 at *
    have hF : NestAt H9 fo [.pol row, .con w 2] := ⟨[.ref D, .ref t], ef, rfl, fun i v L a b => by
      match i, a, b with
      | 0, rfl, rfl => exact ⟨D, rfl, gD⟩
      | 1, rfl, rfl => exact ⟨t, rfl, gt⟩⟩
    have nfF : NF [.pol row, .con w 2] := ⟨fun M hM => by
      rcases List.mem_cons.mp hM with e | e
      · rw [e]; exact hnf
      · rw [List.mem_singleton.mp e]; exact ⟨w0, by decide⟩, fun i w n w' m a b => by
      match i, a, b with
      | 0, a, _ => cases a⟩
    have okF := nfF.oks
    have atF : attOf [.pol row, .con w 2] = ((row.length : Int) + 1) * 2 := by
      rw [attOf_cons, attOf_cons]
      show ((row.length : Int) + 1) * (2 * 1) = _
      omega
    have flF := flatL_len _ _ rfl okF
    have pF := flat_nn okF
    refine ⟨_, rfl, fo, _, rfl, hF, okF, by show 2 ≤ 5000; decide, by omega, fun H10 fr s10 ffr efr => ⟨size_le (by show 1 ≤ 100000; decide), fun la hla => ?_⟩⟩
    have sl := same_new (o := .lst [.ref fr]) hla
    have el := upd_same (H := H10) (a := la) (o := .lst [.ref fr])
    have gr := sl _ _ efr
    generalize upd H10 la (.lst [.ref fr]) = H11 at *
    have hLa : NestAt H11 la [.pol (flatL [.pol row, .con w 2])] := ⟨[.ref fr], el, rfl, fun i v L a b => by
      match i, a, b with
      | 0, rfl, rfl => exact ⟨fr, rfl, gr⟩⟩
    have okA : ∀ L ∈ [Lay.pol (flatL [.pol row, .con w 2])], L.ok = true := fun L hL => by rw [List.mem_singleton.mp hL]; exact pF
    have f1 := flat_one pF
    have atA := flatL_len _ _ rfl okA
    rw [f1] at atA
    have plA : ∀ ns, Lay.pol ns ∈ [Lay.pol (flatL [.pol row, .con w 2])] → ns.length ≤ 20000 := fun ns hm => by
      have := List.mem_singleton.mp hm
      injection this with this
      rw [this]
      omega
    have plF : ∀ ns, Lay.pol ns ∈ [Lay.pol row, .con w 2] → ns.length ≤ 20000 := fun ns hm => by
      rcases List.mem_cons.mp hm with e | e
      · injection e with e
        rw [e]
        omega
      · cases List.mem_singleton.mp e
    have t11 := s10.trans sl
    refine ⟨_, rfl, la, _, rfl, hLa, okA, by show 1 ≤ 20000; decide, big2 (by omega) (by omega), plA, fun H12 u us Ms s12 fu vu nu eu => ?_⟩
    refine ⟨_, rfl, _, _, dp_nest vu.nest, dp_nest ((hF.same t11).same s12), shaped_lays _, shaped_lays _, _, rfl, ?_⟩
    rw [eqv_lays, laysB_iff.mpr (nf_unique nu nfF (eu.trans f1))]
    refine iteT ?_
    have t12 := t11.trans s12
    refine ⟨_, rfl, _, rfl, fo, la, _, _, rfl, hF.same t12, hLa.same s12, okF, okA, by show 2 ≤ 20000; decide, by show 1 ≤ 20000; decide, big2 (by omega) (by omega), big2 (by omega) (by omega), plF, plA, fun H13 s13 => ?_⟩
    rw [f1, decide_eq_true rfl]
    refine ⟨_, rfl, iteT ?_⟩
    refine ⟨_, rfl, size_le (by show 1 ≤ 100000; decide), fun ro hro => ?_⟩
    have sr := same_new (o := .lst [.ref D]) hro
    have er := upd_same (H := H13) (a := ro) (o := .lst [.ref D])
    have gD2 := sr _ _ (s13 _ _ (t12 _ _ gD))
    generalize upd H13 ro (.lst [.ref D]) = H14 at *
    have hR : NestAt H14 ro [.pol row] := ⟨[.ref D], er, rfl, fun i v L a b => by
      match i, a, b with
      | 0, rfl, rfl => exact ⟨D, rfl, gD2⟩⟩
    have okR : ∀ L ∈ [Lay.pol row], L.ok = true := fun L hL => by rw [List.mem_singleton.mp hL]; exact hnf.ok
    have fR := flat_one hnf.ok
    have atR := flatL_len _ _ rfl okR
    rw [fR] at atR
    have plR : ∀ ns, Lay.pol ns ∈ [Lay.pol row] → ns.length ≤ 20000 := fun ns hm => by
      have := List.mem_singleton.mp hm
      injection this with this
      rw [this]
      omega
    have t14 := s12.trans (s13.trans sr)
    refine ⟨_, rfl, ro, la, _, _, rfl, hR, hLa.same t14, okR, okA, by show 1 ≤ 20000; decide, by show 1 ≤ 20000; decide, big2 (by omega) (by omega), big2 (by omega) (by omega), plR, plA, fun H15 s15 => ?_⟩
    have nq : decide (flatL [Lay.pol row] = flatL [Lay.pol (flatL [.pol row, .con w 2])]) = false := decide_eq_false fun z => by
      rw [fR, f1] at z
      have := congrArg List.length z
      omega
    rw [nq]
    exact ⟨_, rfl, q _ ((C7.trans (Rdv.of ((st.trans sf).trans (t11.trans (t14.trans s15)))) (Int.le_refl _)).mono (by omega))⟩

end
end Rn
namespace Rn
open PySem PySem.Spec PyProof.Rows L2
section
variable {P : Program} {w : World} {K : PySem.W.Frag} {mg : Str → Option Value} {base : Heap}
def AvM (H : Hp) (ps : List (V × Lay)) (v : V) : Prop := ∀ d, H d ≠ none → (∀ y ∈ ps, y.1 ≠ V.ref d) → v ≠ V.ref d
theorem AvM.new {H : Hp} {ps : List (V × Lay)} {e : Addr} (h : H e = none) : AvM H ps (.ref e) := fun d hd _ z => by cases z; exact hd h
theorem AvM.old {H : Hp} {ps : List (V × Lay)} {x : V × Lay} (h : x ∈ ps) : AvM H ps x.1 := fun d _ hy => hy x h
def sp_law_merged (K : PySem.W.Frag) : Sp := fun vs H Q _ => ∃ (a p : Addr) (n : Int) (ps : List (V × Lay)), vs = [.ref a, .ref p] ∧ Rng H a n ∧ n ≤ 1000000 ∧ hid a a H p = some (.lst (ps.map Prod.fst)) ∧ LaysP (hid a a H) ps ∧ (∀ x ∈ ps, x.2.ok = true ∧ x.2.cnt ≤ 61) ∧ ps.length ≤ 1000 ∧
  ∀ H' r ps', Rdv a 10 H H' → H r = none → hid a a H' r = some (.lst (ps'.map Prod.fst)) → LaysP (hid a a H') ps' → (∀ x ∈ ps', x.2.ok = true ∧ x.2.cnt ≤ 61) → ps'.length ≤ ps.length → flatL (ps'.map Prod.snd) = flatL (ps.map Prod.snd) → (∀ x ∈ ps', AvM H ps x.1) → Q (.ref r) H'
theorem ok_law_merged (T : Txt K mg) : FnOk P w K mg base CX0 2 T.f_law_merged T.d_law_merged ["rng", "layers"] (sp_law_merged K) := by
  have G_law_draw := (ok_law_draw (P := P) (w := w) (base := base) T)
  have G_law_flat := (ok_law_flat (P := P) (w := w) (base := base) T)
  refine T.F_law_merged.ok sc_law_merged (fun vs H Q E h => ?_) (fun cdv A outer s H vs Q E hr h => ?_)
  · obtain ⟨a, p, n, ps, rfl, _⟩ := h
    rfl
  obtain ⟨a, p, n, ps, rfl, S0, hn, hP, hL, hN, hl, q⟩ := h
  refine ⟨_, (pss_cons (ps_set (i := 2) sc_law_merged.nd rfl (Or.inl rfl) (pe_callTy call_list_of (by rfl) T.m_list (by decide +kernel) (pa_cons (pv 1) pa_nil)))
      (pss_cons (ps_for PassesOwn.never rfl (pi_range1 (by rfl) T.m_range (pa_cons pe_int pa_nil)) (pg_name (i := 3) sc_law_merged.nd rfl (Or.inl rfl))
      (pss_one (ps_if (pt_cmpR op_gt (pe_callB call_len_seq (by rfl) T.m_len PySem.boot_len (pa_cons (pv 2) pa_nil)) pe_int (nomark _))
      (pss_cons (ps_set (i := 4) sc_law_merged.nd rfl (Or.inl rfl) (pe_call G_law_draw hr (by rfl) T.g_law_draw T.F_law_draw.kp T.b_law_draw .nil pass0 (pa_cons (pv 0) (pa_cons (pe_op op_sub (pe_callB call_len_seq (by rfl) T.m_len PySem.boot_len (pa_cons (pv 2) pa_nil)) pe_int) pa_nil))))
      (pss_cons (ps_set (i := 5) sc_law_merged.nd rfl (Or.inl rfl) (pe_call G_law_flat hr (by rfl) T.g_law_flat T.F_law_flat.kp T.b_law_flat .nil pass0 (pa_cons (pe_slice sl_list (pv 2) (po_some (pv 4)) (po_some (pe_op op_add (pv 4) pe_int))) pa_nil)))
      (pss_one (ps_if (pt_cmpR op_le (pe_callB call_len_seq (by rfl) T.m_len PySem.boot_len (pa_cons (pv 5) pa_nil)) pe_int (nomark _))
      (pss_one (ps_asg (pe_lst (pa_cons (pv 5) pa_nil)) (pg_slc (pv 2) (pv 4) (pe_op op_add (pv 4) pe_int))))
      pss_nil))))
      pss_nil)))
      (pss_one (ps_ret (pv 2))))), ?_⟩
  refine ⟨_, rfl, p, _, rfl, .inl (sql (hid_get hP).1), fun r hr' => ?_⟩
  have nr := S0.new1 hr'
  have neL := hL.ne (G := H) hr'
  have sr := same_new (o := .lst (ps.map Prod.fst)) hr'
  have B1 : Rdv a 0 H (upd H r (.lst (ps.map Prod.fst))) := Rdv.of sr
  have e1 : hid a a (upd H r (.lst (ps.map Prod.fst))) r = some (.lst (ps.map Prod.fst)) := hid_at upd_same nr nr
  generalize upd H r (.lst (ps.map Prod.fst)) = H1 at *
  refine ⟨_, rfl, by decide, by decide, ?_⟩
  refine for_range (lo := 0) (n := 3) (fun t σ H' => ∃ y3 y4 y5 ps', σ = [some (.ref a), some (.ref p), some (.ref r), y3, y4, y5] ∧ Rdv a t H H' ∧ hid a a H' r = some (.lst (ps'.map Prod.fst)) ∧ LaysP (hid a a H') ps' ∧ (∀ x ∈ ps', ∀ e, x.1 = V.ref e → e ≠ r) ∧ (∀ x ∈ ps', x.2.ok = true ∧ x.2.cnt ≤ 61) ∧ ps'.length ≤ ps.length ∧ flatL (ps'.map Prod.snd) = flatL (ps.map Prod.snd) ∧ ∀ x ∈ ps', AvM H ps x.1)
    ⟨none, none, none, ps, rfl, B1.mono (by omega), e1, hL.same B1.same, neL, hN, Nat.le_refl _, rfl, fun x hx => AvM.old hx⟩ (fun t σ H2 ht h => ?_) (fun σ H2 h => ?_)
  · obtain ⟨y3, y4, y5, qs, rfl, A2, e2, L2', ne2, N2, len2, f2, av2⟩ := h
    have S2 := A2.src _ S0
    have lf : (qs.map Prod.fst).length = qs.length := List.length_map ..
    refine ⟨_, rfl, r, _, rfl, .inl (sql (hid_get e2).1), _, _, rfl, rfl, _, rfl, ite2 (fun e => ?_) (fun e => ⟨_, _, _, qs, rfl, A2.mono (by omega), e2, L2', ne2, N2, len2, f2, av2⟩)⟩
    have big1 := of_decide_eq_true e
    rw [lf] at big1
    refine ⟨_, rfl, _, rfl, r, _, rfl, .inl (sql (hid_get e2).1), _, _, rfl, rfl, a, _, _, rfl, S2, by omega, by omega, by omega, fun H3 at_ A3 a0 a1 => ?_⟩
    have S3 := A3.src _ S2
    have e3 := A3.same _ _ e2
    have L3 := L2'.same A3.same
    obtain ⟨k, rfl⟩ := Int.eq_ofNat_of_zero_le a0
    rw [lf] at a1
    have k1 : k + 1 < qs.length := by omega
    have er := (hid_get e3).1
    refine ⟨_, rfl, _, rfl, _, rfl, _, rfl, _, _, rfl, rfl, _, rfl, r, _, rfl, sql er, fun b f => ?_⟩
    rw [show ((k : Nat) : Int) + 2 = ((k + 2 : Nat) : Int) by omega, cut_mid, show k + 2 - k = 2 by omega, ← List.map_drop, ← List.map_take]
    have sb := same_new (o := .lst (((qs.drop k).take 2).map Prod.fst)) f
    have eb := upd_same (H := H3) (a := b) (o := .lst (((qs.drop k).take 2).map Prod.fst))
    generalize upd H3 b (.lst (((qs.drop k).take 2).map Prod.fst)) = H4 at *
    have esp : qs = qs.take k ++ ((qs.drop k).take 2 ++ qs.drop (k + 2)) := by
      rw [← List.drop_drop, List.take_append_drop, List.take_append_drop]
    have l2 : ((qs.drop k).take 2).length = 2 := by rw [List.length_take, List.length_drop]; omega
    have m2 : ∀ x ∈ (qs.drop k).take 2, x ∈ qs := fun x hx => List.mem_of_mem_drop (List.mem_of_mem_take hx)
    generalize (qs.drop k).take 2 = two at *
    have L4 : LaysP H4 two := fun x hx => by
      have := (L3.same (hid_same (a := a) (d := a) sb)) x (m2 x hx)
      revert this
      cases x.2 with
      | pol ns => intro ⟨y, h1, h2⟩; exact ⟨y, h1, (hid_get h2).1⟩
      | con w n => intro ⟨y, h1, h2⟩; exact ⟨y, h1, (hid_get h2).1⟩
    have ok2 : ∀ L ∈ two.map Prod.snd, L.ok = true := fun L hL => by
      obtain ⟨x, hx, rfl⟩ := List.mem_map.mp hL
      exact (N2 x (m2 x hx)).1
    have att2 : attOf (two.map Prod.snd) ≤ 61 * 61 := by
      match two, l2, m2 with
      | [x, y], _, m2 =>
        have hx := N2 x (m2 x List.mem_cons_self)
        have hy := N2 y (m2 y (List.mem_cons_of_mem _ List.mem_cons_self))
        rw [List.map_cons, List.map_cons, List.map_nil, attOf_cons, attOf_cons]
        show x.2.cnt * (y.2.cnt * 1) ≤ _
        rw [Int.mul_one]
        exact Int.mul_le_mul hx.2 hy.2 (by have := LayAt.con_pos hy.1; omega) (by decide)
    refine ⟨b, two.map Prod.snd, rfl, pairs_nest eb L4, ok2, by rw [List.length_map]; omega, by omega, fun H5 fr s5 ffr efr => ?_⟩
    have t5 := sb.trans s5
    have er5 := t5 _ _ er
    have B5 := (A2.trans A3 (Int.le_refl _)).trans (Rdv.of t5) (Int.le_refl _)
    have L5 := L3.same (hid_same (a := a) (d := a) t5)
    refine ⟨_, rfl, fr, _, rfl, .inl (sql efr), _, _, rfl, rfl, _, rfl, ite2 (fun e => ?_) (fun e => ⟨_, _, _, qs, rfl, B5.mono (by omega), hid_same (a := a) (d := a) t5 _ _ e3, L5, ne2, N2, len2, f2, av2⟩)⟩
    have sm60 := of_decide_eq_true e
    rw [List.length_map] at sm60
    refine ⟨_, rfl, size_le (by show 1 ≤ 100000; decide), fun c fc => ?_⟩
    have sc := same_new (o := .lst [.ref fr]) fc
    have ec := upd_same (H := H5) (a := c) (o := .lst [.ref fr])
    generalize upd H5 c (.lst [.ref fr]) = H6 at *
    have t6 := t5.trans sc
    have er6 := t6 _ _ er
    have rc : r ≠ c := fun z => by rw [z, fc] at er5; cases er5
    have ffr3 : H3 fr = none := sb.free ffr
    have frr : fr ≠ r := fun z => by rw [z, er] at ffr3; cases ffr3
    have nfr := S3.new1 ffr3
    refine ⟨_, rfl, _, rfl, _, rfl, _, rfl, _, _, rfl, rfl, _, rfl, r, c, _, _, k, k + 2, rfl, rfl, rfl, by rw [show ((k : Nat) : Int) + 2 = ((k + 2 : Nat) : Int) by omega], er6, ec, rc, by omega, by rw [lf]; omega, size_le (by rw [lf]; show qs.length + 1 ≤ 100000; omega), ?_⟩
    have es : (qs.map Prod.fst).take k ++ [V.ref fr] ++ (qs.map Prod.fst).drop (k + 2) = (qs.take k ++ [(V.ref fr, Lay.pol (flatL (two.map Prod.snd)))] ++ qs.drop (k + 2)).map Prod.fst := by
      rw [List.map_append, List.map_append, List.map_take, List.map_drop]
      rfl
    rw [es]
    have B6 := (A2.trans A3 (Int.le_refl _)).trans (Rdv.of t6) (Int.le_refl _)
    have L6 := L3.same (hid_same (a := a) (d := a) t6)
    have pok := flat_nn ok2
    have each : ∀ x ∈ qs.take k ++ [(V.ref fr, Lay.pol (flatL (two.map Prod.snd)))] ++ qs.drop (k + 2), x ∈ qs ∨ x = (V.ref fr, Lay.pol (flatL (two.map Prod.snd))) := fun x hx => by
      rcases List.mem_append.mp hx with h | h
      · rcases List.mem_append.mp h with h | h
        · exact .inl (List.mem_of_mem_take h)
        · exact .inr (List.mem_singleton.mp h)
      · exact .inl (List.mem_of_mem_drop h)
    have lay6 : ∀ x ∈ qs.take k ++ [(V.ref fr, Lay.pol (flatL (two.map Prod.snd)))] ++ qs.drop (k + 2), LayAt (hid a a H6) x.1 x.2 ∧ ∀ e, x.1 = V.ref e → e ≠ r := fun x hx => by
      rcases each x hx with h | h
      · exact ⟨L6 x h, ne2 x h⟩
      · subst h
        exact ⟨⟨fr, rfl, hid_at (sc _ _ efr) nfr nfr⟩, fun e z => by cases z; exact frr⟩
    refine ⟨_, _, _, _, rfl, (B6.mut S0 hr').mono (by omega), by rw [hid_oth nr nr]; exact upd_same, fun x hx => by rw [hid_oth nr nr]; exact (lay6 x hx).1.keep (lay6 x hx).2, fun x hx => (lay6 x hx).2, fun x hx => ?_, ?_, ?_, fun x hx => ?_⟩
    · rcases each x hx with h | h
      · exact N2 x h
      · subst h
        exact ⟨pok, by show ((flatL (two.map Prod.snd)).length : Int) + 1 ≤ 61; omega⟩
    · simp only [List.length_append, List.length_cons, List.length_nil, List.length_take, List.length_drop]
      omega
    · rw [← f2]
      have okA : ∀ L ∈ (qs.take k).map Prod.snd, L.ok = true := fun L hL => by
        obtain ⟨x, hx, rfl⟩ := List.mem_map.mp hL
        exact (N2 x (List.mem_of_mem_take hx)).1
      have okB : ∀ L ∈ (qs.drop (k + 2)).map Prod.snd, L.ok = true := fun L hL => by
        obtain ⟨x, hx, rfl⟩ := List.mem_map.mp hL
        exact (N2 x (List.mem_of_mem_drop hx)).1
      have ok1 : ∀ L ∈ [Lay.pol (flatL (two.map Prod.snd))], L.ok = true := fun L hL => by rw [List.mem_singleton.mp hL]; exact pok
      have e2 := congrArg (fun l => flatL (l.map Prod.snd)) esp
      simp only [List.map_append] at e2
      rw [flat_app okA (fun L hL => (List.mem_append.mp hL).elim (ok2 L) (okB L)), flat_app ok2 okB] at e2
      rw [e2, List.map_append, List.map_append, List.map_cons, List.map_nil, flat_app (fun L hL => (List.mem_append.mp hL).elim (okA L) (ok1 L)) okB, flat_app okA ok1, flat_one pok, nestL_assoc]
    · rcases each x hx with h | h
      · exact av2 x h
      · subst h
        exact AvM.new ((A2.trans A3 (Int.le_refl _)).free S0 ffr3)
  · obtain ⟨y3, y4, y5, qs, rfl, A2, e2, L2', ne2, N2, len2, f2, av2⟩ := h
    exact ⟨_, rfl, q H2 r qs (A2.mono (by omega)) hr' e2 L2' N2 len2 f2 av2⟩

end
end Rn
namespace Rn
open PySem PySem.Spec PyProof.Rows L2
section
variable {P : Program} {w : World} {K : PySem.W.Frag} {mg : Str → Option Value} {base : Heap}
theorem small_att : ∀ {Ls : List Lay}, (∀ L ∈ Ls, L.ok = true ∧ L.cnt ≤ 29) → attOf Ls ≤ 29 ^ Ls.length
  | [], _ => by decide
  | L :: Ls, h => by
    have ih := small_att fun M hM => h M (List.mem_cons_of_mem _ hM)
    have hL := h L List.mem_cons_self
    have c1 := LayAt.con_pos hL.1
    rw [attOf_cons, List.length_cons, Int.pow_succ, Int.mul_comm]
    exact Int.mul_le_mul ih hL.2 (by omega) (Int.le_of_lt (Int.pow_pos (by decide)))
theorem form_att {Ls : List Lay} (h : ∀ L ∈ Ls, L.ok = true ∧ L.cnt ≤ 29) (hl : Ls.length ≤ 3) : attOf Ls ≤ 24389 := by
  have h1 := small_att h
  have h2 : (29 : Int) ^ Ls.length ≤ 24389 := by
    have : Ls.length = 0 ∨ Ls.length = 1 ∨ Ls.length = 2 ∨ Ls.length = 3 := by omega
    rcases this with e | e | e | e <;> rw [e] <;> decide
  omega
def Way (a D : Addr) (F : List Int) (G : Hp) (x : Addr) : Prop := ∃ qs : List (V × Lay), x ≠ D ∧ hid a a G x = some (.lst (qs.map Prod.fst)) ∧ LaysP (hid a a G) qs ∧ (∀ y ∈ qs, y.1 ≠ V.ref D) ∧ (∀ y ∈ qs, y.2.ok = true ∧ y.2.cnt ≤ 61) ∧ qs.length ≤ 8 ∧ flatL (qs.map Prod.snd) = F
theorem Way.same {a D x : Addr} {F : List Int} {G G' : Hp} (h : Way a D F G x) (e : Same (hid a a G) (hid a a G')) : Way a D F G' x := by
  obtain ⟨qs, h1, h2, h3, h4⟩ := h
  exact ⟨qs, h1, e _ _ h2, h3.same e, h4⟩
theorem Way.put {a D x : Addr} {F : List Int} {G : Hp} {o : HO} (h : Way a D F G x) (nD : D ≠ a) : Way a D F (upd G D o) x := by
  obtain ⟨qs, h1, h2, h3, h4, h5⟩ := h
  exact ⟨qs, h1, by rw [hid_oth nD nD, upd_ne h1]; exact h2, fun y hy => by rw [hid_oth nD nD]; exact (h3 y hy).keep fun e z w => h4 y hy (by rw [z, w]), h4, h5⟩
theorem ne_bl {x y : Bool} {A B : Prop} (h : x = y) (b : B) : if (!decide (V.bl x = V.bl y)) = true then A else B := by
  rw [h, decide_eq_true rfl]
  exact iteF b
def sp_law (K : PySem.W.Frag) : Sp := fun vs H Q _ => ∃ (a : Addr) (ns : List Int), vs = [.ref a] ∧ SqL K H a (ns.map V.int) ∧ ns.length ≤ 63 ∧ ∀ H', Q (.bl true) H'
abbrev lvl_law : Nat := 9
theorem ok_law (T : Txt K mg) : FnOk P w K mg base CX0 lvl_law T.f_law T.d_law ["script"] (sp_law K) := by
  have G_law_rng := (ok_law_rng (P := P) (w := w) (base := base) T).mono (by decide : 1 ≤ 8)
  have G_law_form := (ok_law_form (P := P) (w := w) (base := base) T).mono (by decide : 4 ≤ 8)
  have G_law_written := (ok_law_written (P := P) (w := w) (base := base) T).mono (by decide : 3 ≤ 8)
  have G_law_merged := (ok_law_merged (P := P) (w := w) (base := base) T).mono (by decide : 2 ≤ 8)
  have G_law_long_right := (ok_law_long_right (P := P) (w := w) (base := base) T)
  have G_normal_form := (ok_normal_form (P := P) (w := w) (base := base) T).mono (by decide : 6 ≤ 8)
  have G_same_policy := (ok_same_policy (P := P) (w := w) (base := base) T).mono (by decide : 7 ≤ 8)
  refine T.F_law.ok sc_law (fun vs H Q E h => ?_) (fun cdv A outer s H vs Q E hr h => ?_)
  · obtain ⟨a, ns, rfl, _⟩ := h
    rfl
  obtain ⟨sa, ns, rfl, hS, hl, q⟩ := h
  refine ⟨_, (pss_cons (ps_set (i := 1) sc_law.nd rfl (Or.inr rfl) (pe_call G_law_rng hr (by rfl) T.g_law_rng T.F_law_rng.kp T.b_law_rng .nil pass0 (pa_cons (pv 0) pa_nil)))
      (pss_cons (ps_for PassesOwn.never rfl (pi_range1 (by rfl) T.m_range (pa_cons (pe_op op_add pe_int (pe_callB (call_min2 rfl) (by rfl) T.m_min (by decide +kernel) (pa_cons pe_int (pa_cons (pe_callB call_len_seq (by rfl) T.m_len PySem.boot_len (pa_cons (pv 0) pa_nil)) pa_nil)))) pa_nil)) (pg_name (i := 2) sc_law.nd rfl (Or.inl rfl))
      (pss_cons (ps_asg (pe_tup (pa_cons (pe_call G_law_form hr (by rfl) T.g_law_form T.F_law_form.kp T.b_law_form .nil pass0 (pa_cons (pv 1) (pa_cons pe_int pa_nil))) (pa_cons (pe_call G_law_form hr (by rfl) T.g_law_form T.F_law_form.kp T.b_law_form .nil pass0 (pa_cons (pv 1) (pa_cons pe_int pa_nil))) pa_nil))) (pg_tup rfl (pgs_cons (pg_name (i := 3) sc_law.nd rfl (Or.inr rfl)) (pgs_cons (pg_name (i := 4) sc_law.nd rfl (Or.inl rfl)) pgs_nil))))
      (pss_cons (ps_setLc (i := 5) (own := [("turn", 7)]) (g := gName 7) (tt := tYes) rfl sc_law.nd rfl rfl (sw_true rfl rfl rfl (by decide +kernel)) (pi_range1 (by rfl) T.m_range (pa_cons pe_int pa_nil)) (blkOk_by (N := ["script", "rng", "lap", "form", "other", "ways", "layers", "turn"]) (sc := defScope s_law) (by decide +kernel)) (fun _ _ _ _ _ => (pg_name (i := 7) sc_law.nd rfl (Or.inl rfl))) (fun _ _ _ _ _ => pts_nil) (fun _ _ _ _ _ => (pe_call G_law_merged hr (by rfl) T.g_law_merged T.F_law_merged.kp T.b_law_merged .nil pass0 (pa_cons (pv 1) (pa_cons (pe_call G_law_written hr (by rfl) T.g_law_written T.F_law_written.kp T.b_law_written .nil pass0 (pa_cons (pv 1) (pa_cons (pv 3) pa_nil))) pa_nil)))))
      (pss_cons (ps_for PassesOwn.never rfl (pi_list (pv 5)) (pg_name (i := 6) sc_law.nd rfl (Or.inl rfl))
      (pss_one (ps_if (PW.pt (pw_or (pt_cmpR (op_neD hr.units) (pe_call G_normal_form hr (by rfl) T.g_normal_form T.F_normal_form.kp T.b_normal_form .nil pass0 (pa_cons (pv 6) pa_nil)) (pv 3) (nomark _)) (pw_or1 (pt_not (pt_val (pe_call G_same_policy hr (by rfl) T.g_same_policy T.F_same_policy.kp T.b_same_policy .nil pass0 (pa_cons (pv 6) (pa_cons (pv 3) pa_nil))))))))
      (pss_one (ps_ret pe_bl))
      pss_nil)))
      (pss_cons (ps_if (pt_cmpR op_ne (pe_call G_same_policy hr (by rfl) T.g_same_policy T.F_same_policy.kp T.b_same_policy .nil pass0 (pa_cons (pe_ix ix_list (pv 5) pe_int (fun _ _ => rfl)) (pa_cons (pe_call G_law_merged hr (by rfl) T.g_law_merged T.F_law_merged.kp T.b_law_merged .nil pass0 (pa_cons (pv 1) (pa_cons (pe_call G_law_written hr (by rfl) T.g_law_written T.F_law_written.kp T.b_law_written .nil pass0 (pa_cons (pv 1) (pa_cons (pv 4) pa_nil))) pa_nil))) pa_nil))) (pe_cmpR (op_eqD hr.units) (pv 3) (pv 4) (nomark _)) (nomark _))
      (pss_one (ps_ret pe_bl))
      pss_nil)
      (pss_one (ps_if (pt_not (pt_val (pe_call G_law_long_right hr (by rfl) T.g_law_long_right T.F_law_long_right.kp T.b_law_long_right .nil pass0 (pa_cons (pv 1) pa_nil))))
      (pss_one (ps_ret pe_bl))
      pss_nil)))))))
      (pss_one (ps_ret pe_bl)))), ?_⟩
  refine ⟨_, rfl, sa, ns, rfl, hS, hl, fun H1 a s1 _ S1 => ?_⟩
  have hlen : (ns.map V.int).length ≤ 63 := by rw [List.length_map]; exact hl
  have hmin : ∀ z : Int, (if z < 10 then z else 10) ≤ 10 := fun z => by split <;> omega
  have hmin0 : 0 ≤ (if (((ns.map V.int).length : Nat) : Int) < 10 then (((ns.map V.int).length : Nat) : Int) else 10) := by split <;> omega
  have hm1 := hmin (((ns.map V.int).length : Nat) : Int)
  refine ⟨_, rfl, sa, _, rfl, .inl (s1.seq hS), _, _, rfl, _, _, rfl, rfl, _, rfl, by omega, by omega, ?_⟩
  refine for_range (lo := 0) (n := (8 + (if (((ns.map V.int).length : Nat) : Int) < 10 then (((ns.map V.int).length : Nat) : Int) else 10)).toNat)
    (fun i σ H' => (∃ y2 y3 y4 y5 y6 y7, σ = [some (.ref sa), some (.ref a), y2, y3, y4, y5, y6, y7]) ∧ Rdv a (10000 * i) H1 H') ⟨⟨_, _, _, _, _, _, rfl⟩, Rdv.refl⟩ (fun i σ H2 hi h => ?_) (fun σ H2 h => q _)
  obtain ⟨⟨y2, y3, y4, y5, y6, y7, rfl⟩, A2⟩ := h
  have hi' : (i : Int) < 18 := by omega
  have S2 := A2.src 0 S1
  refine ⟨_, rfl, a, _, 3, rfl, S2, by omega, by decide, by decide, fun H3 p1 ps1 A3 fr1 e1 L1 nf1 sm1 len1 => ?_⟩
  have S3 := A3.src _ S2
  refine ⟨_, rfl, a, _, 3, rfl, S3, by omega, by decide, by decide, fun H40 p2 ps2 A40 fr2 e20 L20 nf2 sm2 len2 => ⟨size_le (by show 2 ≤ 100000; decide), fun tt ht => ?_⟩⟩
  have st := same_new (o := .tup [.ref p1, .ref p2]) ht
  refine ⟨tt, _, rfl, sqt upd_same, rfl, _, _, rfl, _, _, rfl, rfl, ?_⟩
  have A4 := A40.trans (Rdv.of st) (Int.le_refl _)
  have e2 := hid_same (a := a) (d := a) st _ _ e20
  have L2' := L20.same (hid_same (a := a) (d := a) st)
  generalize upd H40 tt (.tup [.ref p1, .ref p2]) = H4 at *
  have S4 := A4.src _ S3
  have C4 := A3.trans A4 (Int.le_refl _)
  have e1' := A4.same _ _ e1
  have L1' := L1.same A4.same
  have sok : ∀ {ps : List (V × Lay)}, NF (ps.map Prod.snd) → Small ps → ∀ L ∈ ps.map Prod.snd, L.ok = true ∧ L.cnt ≤ 29 := fun hn hs L hL => by
    obtain ⟨x, hx, rfl⟩ := List.mem_map.mp hL
    exact ⟨(hn.1 _ (List.mem_map.mpr ⟨x, hx, rfl⟩)).ok, (hs x hx).1⟩
  have at1 := form_att (sok nf1 sm1) (by rw [List.length_map]; omega)
  have at2 := form_att (sok nf2 sm2) (by rw [List.length_map]; omega)
  have fl1 := flatL_len _ _ rfl nf1.oks
  have fl2 := flatL_len _ _ rfl nf2.oks
  have nfs : ∀ {ps : List (V × Lay)}, NF (ps.map Prod.snd) → ∀ x ∈ ps, x.2.nf := fun hn x hx => hn.1 _ (List.mem_map.mpr ⟨x, hx, rfl⟩)
  have pls : ∀ {qs : List (V × Lay)}, (∀ y ∈ qs, y.2.ok = true ∧ y.2.cnt ≤ 61) → ∀ ns, Lay.pol ns ∈ qs.map Prod.snd → ns.length ≤ 20000 := fun h ns hm => by
    obtain ⟨x, hx, e⟩ := List.mem_map.mp hm
    have := (h x hx).2
    rw [e] at this
    have c : (Lay.pol ns).cnt = (ns.length : Int) + 1 := rfl
    omega
  have oks : ∀ {qs : List (V × Lay)}, (∀ y ∈ qs, y.2.ok = true ∧ y.2.cnt ≤ 61) → ∀ L ∈ qs.map Prod.snd, L.ok = true := fun h L hL => by
    obtain ⟨x, hx, rfl⟩ := List.mem_map.mp hL
    exact (h x hx).1
  -- ways
  refine ⟨_, rfl, by decide, by decide, fun D hD => ?_⟩
  have nD := S4.new1 hD
  have fD : H2 D = none := C4.free S2 hD
  have neD1 := L1'.ne (G := H4) hD
  have neD2 := L2'.ne (G := H4) hD
  refine lc_range (lo := 0) (n := 3) (fun j H' => ∃ ws : List Addr, hid a a H' D = some (.lst (ws.map V.ref)) ∧ ws.length = j ∧ (∀ x ∈ ws, Way a D (flatL (ps1.map Prod.snd)) H' x) ∧ Same (hid a a H4) (hid a a H') ∧ Rdv a (2000 + 1100 * j) H2 H')
    ⟨[], hid_at upd_same nD nD, rfl, (fun _ z => nomatch z), hid_same (same_new hD), (C4.trans (Rdv.of (same_new hD)) (Int.le_refl _)).mono (by omega)⟩ (fun j H5 hj h => ?_) (fun H5 h => ?_)
  · obtain ⟨ws, hw, wl, way, sm, A5⟩ := h
    have S5 := A5.src _ S2
    refine ⟨rfl, _, rfl, _, rfl, _, rfl, a, p1, _, ps1, rfl, S5, by omega, sm _ _ e1', L1'.same sm, nfs nf1, sm1, by omega, fun H6 r6 qs A6 f6 e6 l6 n6 len6 fl6 av6 => ?_⟩
    have S6 := A6.src _ S5
    refine ⟨a, r6, _, qs, rfl, S6, by omega, e6, l6, n6, by omega, fun H7 r7 rs A7 f7 e7 l7 n7 len7 fl7 av7 => ?_⟩
    have hw6 := A6.same _ _ hw
    have hw7 := A7.same _ _ hw6
    have sm7 := (sm.trans A6.same).trans A7.same
    have D5 : H5 D ≠ none := by rw [(hid_get hw).1]; exact fun z => by cases z
    have D6 : H6 D ≠ none := by rw [(hid_get hw6).1]; exact fun z => by cases z
    have q6 : ∀ y ∈ qs, y.1 ≠ V.ref D := fun y hy => av6 y hy D D5 fun z hz w => neD1 z hz D w rfl
    have q7 : ∀ y ∈ rs, y.1 ≠ V.ref D := fun y hy => av7 y hy D D6 q6
    have r7D : r7 ≠ D := fun z => by rw [z] at f7; exact D6 f7
    have w7 : Way a D (flatL (ps1.map Prod.snd)) H7 r7 := ⟨rs, r7D, e7, l7, q7, n7, by omega, fl7.trans fl6⟩
    have lw : (ws.map V.ref).length = ws.length := List.length_map ..
    refine ⟨_, (hid_get hw7).1, size_lt (by rw [lw]; omega), ws ++ [r7], by rw [hid_oth nD nD, List.map_append]; exact upd_same, by rw [List.length_append, wl]; rfl, fun x hx => ?_, by rw [hid_oth nD nD]; exact same_keep sm7 (hid_none hD), (((A5.trans A6 (Int.le_refl _)).trans A7 (Int.le_refl _)).mut S2 fD).mono (by push_cast; omega)⟩
    rcases List.mem_append.mp hx with z | z
    · exact ((way x z).same (A6.same.trans A7.same)).put nD
    · rw [List.mem_singleton.mp z]
      exact w7.put nD
  · obtain ⟨ws, hw, wl, way, sm, A5⟩ := h
    have S5 := A5.src _ S2
    have e1'' := sm _ _ e1'
    have N1 := pairs_nest e1'' (L1'.same sm)
    have lw : (ws.map V.ref).length = ws.length := List.length_map ..
    refine ⟨_, rfl, D, rfl, ⟨_, sql (hid_get hw).1⟩, for_list (xs := ws.map V.ref) (fun j σ H' => (∃ y6, σ = [some (.ref sa), some (.ref a), some (.int (0 + (i : Int))), some (.ref p1), some (.ref p2), some (.ref D), y6, y7]) ∧ Same H5 H')
      ⟨⟨_, rfl⟩, Same.refl _⟩ (fun j σ H' _ h => sql (h.2 _ _ (hid_get hw).1)) (fun j v σ H6 hv h => ?_) (fun σ H6 h => ?_)⟩
    · obtain ⟨⟨y6, rfl⟩, s6⟩ := h
      have mv := List.mem_of_getElem? hv
      obtain ⟨x, hx, rfl⟩ := List.mem_map.mp mv
      obtain ⟨qs, q1, q2, q3, q4, q5, q6, q7⟩ := way x hx
      have NX := (nest_lowP (pairs_nest q2 q3)).same s6
      have NF1 := (nest_lowP N1).same s6
      have flX := flatL_len _ _ rfl (oks q5)
      rw [q7] at flX
      refine ⟨_, rfl, x, _, rfl, NX, oks q5, by rw [List.length_map]; omega, big2 (by omega) (by omega), pls q5, fun H7 u us Ms s7 fu vu nu eu => ?_⟩
      refine ⟨_, rfl, _, _, dp_nest vu.nest, dp_nest (NF1.same s7), shaped_lays _, shaped_lays _, _, rfl, ?_⟩
      rw [eqv_lays, laysB_iff.mpr (nf_unique nu nf1 (eu.trans q7))]
      refine iteF ?_
      refine ⟨_, rfl, _, rfl, x, p1, _, _, rfl, NX.same s7, NF1.same s7, oks q5, nf1.oks, by rw [List.length_map]; omega, by rw [List.length_map]; omega, big2 (by omega) (by omega), big2 (by omega) (by omega), pls q5, pls (fun y hy => ⟨(nfs nf1 y hy).ok, by have := (sm1 y hy).1; omega⟩), fun H8 s8 => ?_⟩
      rw [q7, decide_eq_true rfl]
      exact ⟨_, rfl, iteF ⟨⟨_, rfl⟩, (s6.trans s7).trans s8⟩⟩
    · obtain ⟨⟨y6, rfl⟩, s6⟩ := h
      have hs6 := hid_same (a := a) (d := a) s6
      have w0 : 0 < ws.length := by omega
      obtain ⟨qs, q1, q2, q3, q4, q5, q6, q7⟩ := way ws[0] (List.getElem_mem w0)
      have A6 := A5.trans (Rdv.of s6) (Int.le_refl _)
      have S6 := A6.src _ S2
      have flX := flatL_len _ _ rfl (oks q5)
      rw [q7] at flX
      have hat : atI (ws.map V.ref) 0 = some (.ref ws[0]) := atI_nat (j := 0) (by rw [List.getElem?_map, List.getElem?_eq_getElem w0]; rfl)
      refine ⟨_, rfl, D, _, 0, .ref ws[0], rfl, rfl, sql (s6 _ _ (hid_get hw).1), hat, ?_⟩
      refine ⟨_, rfl, _, rfl, _, rfl, a, p2, _, ps2, rfl, S6, by omega, hs6 _ _ (sm _ _ e2), (L2'.same sm).same hs6, nfs nf2, sm2, by omega, fun H7 r7 rs A7 f7 e7 l7 n7 len7 fl7 _ => ?_⟩
      have S7 := A7.src _ S6
      refine ⟨a, r7, _, rs, rfl, S7, by omega, e7, l7, n7, by omega, fun H8 r8 ts A8 f8 e8 l8 n8 len8 fl8 _ => ?_⟩
      have A8' := (A6.trans A7 (Int.le_refl _)).trans A8 (Int.le_refl _)
      have same8 := (hs6.trans A7.same).trans A8.same
      have NX := nest_lowP ((pairs_nest q2 q3).same same8)
      have NR := nest_lowP (pairs_nest e8 l8)
      have NF1 := nest_lowP (N1.same same8)
      have NF2 := nest_lowP (((pairs_nest e2 L2').same sm).same same8)
      have flR := flatL_len _ _ rfl (oks n8)
      rw [fl8, fl7] at flR
      refine ⟨ws[0], r8, _, _, rfl, NX, NR, oks q5, oks n8, by rw [List.length_map]; omega, by rw [List.length_map]; omega, big2 (by omega) (by omega), big2 (by omega) (by omega), pls q5, pls n8, fun H9 s9 => ?_⟩
      rw [q7, fl8, fl7]
      refine ⟨_, rfl, _, rfl, _, _, dp_nest (NF1.same s9), dp_nest (NF2.same s9), shaped_lays _, shaped_lays _, ?_⟩
      rw [eqv_lays, nf_eq nf1 nf2 rfl rfl]
      refine ⟨rfl, _, rfl, ne_bl rfl ?_⟩
      have A9 := A8'.trans (Rdv.of s9) (Int.le_refl _)
      refine ⟨_, rfl, a, _, rfl, A9.src _ S2, by omega, fun H10 A10 => ⟨_, rfl, iteF ⟨⟨_, _, _, _, _, _, rfl⟩, ((A2.trans A9 (Int.le_refl _)).trans A10 (Int.le_refl _)).mono (by omega)⟩⟩⟩

end
end Rn
namespace Rn
open PySem PySem.Spec PyProof.Rows L2
theorem all_mk {l : PySem.W.OpenLaw} {w : World} {K : PySem.W.Frag} {h : Heap} {mg : Str → Option Value} {fa f0 f1 f2 f3 f4 f5 f6 f7 f8 f9 f10 f11 f12 f13 f14 f15 f16 f17 f18 f19 f20 f21 f22 : Addr} (X : K.In h) (G : h.Ns mainGlobals mg) (hfa : mg "law" = some (.ref fa))
    {od0 an0 od1 an1 od2 an2 od3 an3 od4 an4 od5 an5 od6 an6 od7 an7 od8 an8 od9 an9 od10 an10 od11 an11 od12 an12 od13 an13 od14 an14 od15 an15 od16 an16 od17 an17 od18 an18 od19 an19 od20 an20 od21 an21 od22 an22 : Option Addr} {sl0 sl1 sl2 sl3 sl4 sl5 sl6 sl7 sl8 sl9 sl10 sl11 sl12 sl13 sl14 sl15 sl16 sl17 sl18 sl19 sl20 sl21 sl22 : Array (Option Value)} {oc0 kV0 dc0 pm0 cd0 ct0 oc1 kV1 dc1 pm1 cd1 ct1 oc2 kV2 dc2 pm2 cd2 ct2 oc3 kV3 dc3 pm3 cd3 ct3 oc4 kV4 dc4 pm4 cd4 ct4 oc5 kV5 dc5 pm5 cd5 ct5 oc6 kV6 dc6 pm6 cd6 ct6 oc7 kV7 dc7 pm7 cd7 ct7 oc8 kV8 dc8 pm8 cd8 ct8 oc9 kV9 dc9 pm9 cd9 ct9 oc10 kV10 dc10 pm10 cd10 ct10 oc11 kV11 dc11 pm11 cd11 ct11 oc12 kV12 dc12 pm12 cd12 ct12 oc13 kV13 dc13 pm13 cd13 ct13 oc14 kV14 dc14 pm14 cd14 ct14 oc15 kV15 dc15 pm15 cd15 ct15 oc16 kV16 dc16 pm16 cd16 ct16 oc17 kV17 dc17 pm17 cd17 ct17 oc18 kV18 dc18 pm18 cd18 ct18 oc19 kV19 dc19 pm19 cd19 ct19 oc20 kV20 dc20 pm20 cd20 ct20 oc21 kV21 dc21 pm21 cd21 ct21 oc22 kV22 dc22 pm22 cd22 ct22 : Value}
    (a0 : PySem.W.nsIn K mainGlobals "first_negative" = some (some (.ref f0))) (l0 : K.lookup f0 = some ⟨oc0, od0, .func (PySem.W.fnOf "first_negative" "first_negative" (defArgs s_first_negative) (defBody s_first_negative) (defScope s_first_negative) .none kV0 dc0 pm0 an0 cd0 ct0), sl0⟩) (c0 : PySem.W.codeIn K cd0 "first_negative" = true) (k0 : PySem.W.keepIn K (.ref f0) = true)
    (a1 : PySem.W.nsIn K mainGlobals "is_valid_layer" = some (some (.ref f1))) (l1 : K.lookup f1 = some ⟨oc1, od1, .func (PySem.W.fnOf "is_valid_layer" "is_valid_layer" (defArgs s_is_valid_layer) (defBody s_is_valid_layer) (defScope s_is_valid_layer) .none kV1 dc1 pm1 an1 cd1 ct1), sl1⟩) (c1 : PySem.W.codeIn K cd1 "is_valid_layer" = true) (k1 : PySem.W.keepIn K (.ref f1) = true)
    (a2 : PySem.W.nsIn K mainGlobals "check_nesting" = some (some (.ref f2))) (l2 : K.lookup f2 = some ⟨oc2, od2, .func (PySem.W.fnOf "check_nesting" "check_nesting" (defArgs s_check_nesting) (defBody s_check_nesting) (defScope s_check_nesting) .none kV2 dc2 pm2 an2 cd2 ct2), sl2⟩) (c2 : PySem.W.codeIn K cd2 "check_nesting" = true) (k2 : PySem.W.keepIn K (.ref f2) = true)
    (a3 : PySem.W.nsIn K mainGlobals "repeats" = some (some (.ref f3))) (l3 : K.lookup f3 = some ⟨oc3, od3, .func (PySem.W.fnOf "repeats" "repeats" (defArgs s_repeats) (defBody s_repeats) (defScope s_repeats) .none kV3 dc3 pm3 an3 cd3 ct3), sl3⟩) (c3 : PySem.W.codeIn K cd3 "repeats" = true) (k3 : PySem.W.keepIn K (.ref f3) = true)
    (a4 : PySem.W.nsIn K mainGlobals "is_inner_number" = some (some (.ref f4))) (l4 : K.lookup f4 = some ⟨oc4, od4, .func (PySem.W.fnOf "is_inner_number" "is_inner_number" (defArgs s_is_inner_number) (defBody s_is_inner_number) (defScope s_is_inner_number) .none kV4 dc4 pm4 an4 cd4 ct4), sl4⟩) (c4 : PySem.W.codeIn K cd4 "is_inner_number" = true) (k4 : PySem.W.keepIn K (.ref f4) = true)
    (a5 : PySem.W.nsIn K mainGlobals "smallest_inner_number" = some (some (.ref f5))) (l5 : K.lookup f5 = some ⟨oc5, od5, .func (PySem.W.fnOf "smallest_inner_number" "smallest_inner_number" (defArgs s_smallest_inner_number) (defBody s_smallest_inner_number) (defScope s_smallest_inner_number) .none kV5 dc5 pm5 an5 cd5 ct5), sl5⟩) (c5 : PySem.W.codeIn K cd5 "smallest_inner_number" = true) (k5 : PySem.W.keepIn K (.ref f5) = true)
    (a6 : PySem.W.nsIn K mainGlobals "list_parts" = some (some (.ref f6))) (l6 : K.lookup f6 = some ⟨oc6, od6, .func (PySem.W.fnOf "list_parts" "list_parts" (defArgs s_list_parts) (defBody s_list_parts) (defScope s_list_parts) .none kV6 dc6 pm6 an6 cd6 ct6), sl6⟩) (c6 : PySem.W.codeIn K cd6 "list_parts" = true) (k6 : PySem.W.keepIn K (.ref f6) = true)
    (a7 : PySem.W.nsIn K mainGlobals "layer_parts" = some (some (.ref f7))) (l7 : K.lookup f7 = some ⟨oc7, od7, .func (PySem.W.fnOf "layer_parts" "layer_parts" (defArgs s_layer_parts) (defBody s_layer_parts) (defScope s_layer_parts) .none kV7 dc7 pm7 an7 cd7 ct7), sl7⟩) (c7 : PySem.W.codeIn K cd7 "layer_parts" = true) (k7 : PySem.W.keepIn K (.ref f7) = true)
    (a8 : PySem.W.nsIn K mainGlobals "same_constant" = some (some (.ref f8))) (l8 : K.lookup f8 = some ⟨oc8, od8, .func (PySem.W.fnOf "same_constant" "same_constant" (defArgs s_same_constant) (defBody s_same_constant) (defScope s_same_constant) .none kV8 dc8 pm8 an8 cd8 ct8), sl8⟩) (c8 : PySem.W.codeIn K cd8 "same_constant" = true) (k8 : PySem.W.keepIn K (.ref f8) = true)
    (a9 : PySem.W.nsIn K mainGlobals "merged" = some (some (.ref f9))) (l9 : K.lookup f9 = some ⟨oc9, od9, .func (PySem.W.fnOf "merged" "merged" (defArgs s_merged) (defBody s_merged) (defScope s_merged) .none kV9 dc9 pm9 an9 cd9 ct9), sl9⟩) (c9 : PySem.W.codeIn K cd9 "merged" = true) (k9 : PySem.W.keepIn K (.ref f9) = true)
    (a10 : PySem.W.nsIn K mainGlobals "normal_form" = some (some (.ref f10))) (l10 : K.lookup f10 = some ⟨oc10, od10, .func (PySem.W.fnOf "normal_form" "normal_form" (defArgs s_normal_form) (defBody s_normal_form) (defScope s_normal_form) .none kV10 dc10 pm10 an10 cd10 ct10), sl10⟩) (c10 : PySem.W.codeIn K cd10 "normal_form" = true) (k10 : PySem.W.keepIn K (.ref f10) = true)
    (a11 : PySem.W.nsIn K mainGlobals "same_policy" = some (some (.ref f11))) (l11 : K.lookup f11 = some ⟨oc11, od11, .func (PySem.W.fnOf "same_policy" "same_policy" (defArgs s_same_policy) (defBody s_same_policy) (defScope s_same_policy) .none kV11 dc11 pm11 an11 cd11 ct11), sl11⟩) (c11 : PySem.W.codeIn K cd11 "same_policy" = true) (k11 : PySem.W.keepIn K (.ref f11) = true)
    (a12 : PySem.W.nsIn K mainGlobals "_law_rng" = some (some (.ref f12))) (l12 : K.lookup f12 = some ⟨oc12, od12, .func (PySem.W.fnOf "_law_rng" "_law_rng" (defArgs s_law_rng) (defBody s_law_rng) (defScope s_law_rng) .none kV12 dc12 pm12 an12 cd12 ct12), sl12⟩) (c12 : PySem.W.codeIn K cd12 "_law_rng" = true) (k12 : PySem.W.keepIn K (.ref f12) = true)
    (a13 : PySem.W.nsIn K mainGlobals "_law_draw" = some (some (.ref f13))) (l13 : K.lookup f13 = some ⟨oc13, od13, .func (PySem.W.fnOf "_law_draw" "_law_draw" (defArgs s_law_draw) (defBody s_law_draw) (defScope s_law_draw) .none kV13 dc13 pm13 an13 cd13 ct13), sl13⟩) (c13 : PySem.W.codeIn K cd13 "_law_draw" = true) (k13 : PySem.W.keepIn K (.ref f13) = true)
    (a14 : PySem.W.nsIn K mainGlobals "_law_wait" = some (some (.ref f14))) (l14 : K.lookup f14 = some ⟨oc14, od14, .func (PySem.W.fnOf "_law_wait" "_law_wait" (defArgs s_law_wait) (defBody s_law_wait) (defScope s_law_wait) .none kV14 dc14 pm14 an14 cd14 ct14), sl14⟩) (c14 : PySem.W.codeIn K cd14 "_law_wait" = true) (k14 : PySem.W.keepIn K (.ref f14) = true)
    (a15 : PySem.W.nsIn K mainGlobals "_law_flat" = some (some (.ref f15))) (l15 : K.lookup f15 = some ⟨oc15, od15, .func (PySem.W.fnOf "_law_flat" "_law_flat" (defArgs s_law_flat) (defBody s_law_flat) (defScope s_law_flat) .none kV15 dc15 pm15 an15 cd15 ct15), sl15⟩) (c15 : PySem.W.codeIn K cd15 "_law_flat" = true) (k15 : PySem.W.keepIn K (.ref f15) = true)
    (a16 : PySem.W.nsIn K mainGlobals "_law_block" = some (some (.ref f16))) (l16 : K.lookup f16 = some ⟨oc16, od16, .func (PySem.W.fnOf "_law_block" "_law_block" (defArgs s_law_block) (defBody s_law_block) (defScope s_law_block) .none kV16 dc16 pm16 an16 cd16 ct16), sl16⟩) (c16 : PySem.W.codeIn K cd16 "_law_block" = true) (k16 : PySem.W.keepIn K (.ref f16) = true)
    (a17 : PySem.W.nsIn K mainGlobals "_law_form" = some (some (.ref f17))) (l17 : K.lookup f17 = some ⟨oc17, od17, .func (PySem.W.fnOf "_law_form" "_law_form" (defArgs s_law_form) (defBody s_law_form) (defScope s_law_form) .none kV17 dc17 pm17 an17 cd17 ct17), sl17⟩) (c17 : PySem.W.codeIn K cd17 "_law_form" = true) (k17 : PySem.W.keepIn K (.ref f17) = true)
    (a18 : PySem.W.nsIn K mainGlobals "_law_factors" = some (some (.ref f18))) (l18 : K.lookup f18 = some ⟨oc18, od18, .func (PySem.W.fnOf "_law_factors" "_law_factors" (defArgs s_law_factors) (defBody s_law_factors) (defScope s_law_factors) .none kV18 dc18 pm18 an18 cd18 ct18), sl18⟩) (c18 : PySem.W.codeIn K cd18 "_law_factors" = true) (k18 : PySem.W.keepIn K (.ref f18) = true)
    (a19 : PySem.W.nsIn K mainGlobals "_law_written" = some (some (.ref f19))) (l19 : K.lookup f19 = some ⟨oc19, od19, .func (PySem.W.fnOf "_law_written" "_law_written" (defArgs s_law_written) (defBody s_law_written) (defScope s_law_written) .none kV19 dc19 pm19 an19 cd19 ct19), sl19⟩) (c19 : PySem.W.codeIn K cd19 "_law_written" = true) (k19 : PySem.W.keepIn K (.ref f19) = true)
    (a20 : PySem.W.nsIn K mainGlobals "_law_long_right" = some (some (.ref f20))) (l20 : K.lookup f20 = some ⟨oc20, od20, .func (PySem.W.fnOf "_law_long_right" "_law_long_right" (defArgs s_law_long_right) (defBody s_law_long_right) (defScope s_law_long_right) .none kV20 dc20 pm20 an20 cd20 ct20), sl20⟩) (c20 : PySem.W.codeIn K cd20 "_law_long_right" = true) (k20 : PySem.W.keepIn K (.ref f20) = true)
    (a21 : PySem.W.nsIn K mainGlobals "_law_merged" = some (some (.ref f21))) (l21 : K.lookup f21 = some ⟨oc21, od21, .func (PySem.W.fnOf "_law_merged" "_law_merged" (defArgs s_law_merged) (defBody s_law_merged) (defScope s_law_merged) .none kV21 dc21 pm21 an21 cd21 ct21), sl21⟩) (c21 : PySem.W.codeIn K cd21 "_law_merged" = true) (k21 : PySem.W.keepIn K (.ref f21) = true)
    (a22 : PySem.W.nsIn K mainGlobals "law" = some (some (.ref f22))) (l22 : K.lookup f22 = some ⟨oc22, od22, .func (PySem.W.fnOf "law" "law" (defArgs s_law) (defBody s_law) (defScope s_law) .none kV22 dc22 pm22 an22 cd22 ct22), sl22⟩) (c22 : PySem.W.codeIn K cd22 "law" = true) (k22 : PySem.W.keepIn K (.ref f22) = true)
    (z0 : PySem.W.nsIn K mainGlobals "abs" = some none)
    (z1 : PySem.W.nsIn K mainGlobals "enumerate" = some none)
    (z2 : PySem.W.nsIn K mainGlobals "isinstance" = some none)
    (z3 : PySem.W.nsIn K mainGlobals "len" = some none)
    (z4 : PySem.W.nsIn K mainGlobals "list" = some none)
    (z5 : PySem.W.nsIn K mainGlobals "min" = some none)
    (z6 : PySem.W.nsIn K mainGlobals "range" = some none)
    (z7 : PySem.W.nsIn K mainGlobals "tuple" = some none)
    : ∃ fd : FuncData, (∀ (s : Shared) (v : Value), BindsTo s fd ⟨[v], []⟩ [("script", v)]) ∧ ∀ base : Heap, K.In base → base.Ns mainGlobals mg → FnOk l.prog w K mg base CX0 lvl_law fa fd ["script"] (sp_law K) := by
  have e := hfa.symm.trans (PySem.W.mg_of X G a22)
  cases e
  have F0 := fun_mk (st := s_first_negative) l0 c0 k0
  have F1 := fun_mk (st := s_is_valid_layer) l1 c1 k1
  have F2 := fun_mk (st := s_check_nesting) l2 c2 k2
  have F3 := fun_mk (st := s_repeats) l3 c3 k3
  have F4 := fun_mk (st := s_is_inner_number) l4 c4 k4
  have F5 := fun_mk (st := s_smallest_inner_number) l5 c5 k5
  have F6 := fun_mk (st := s_list_parts) l6 c6 k6
  have F7 := fun_mk (st := s_layer_parts) l7 c7 k7
  have F8 := fun_mk (st := s_same_constant) l8 c8 k8
  have F9 := fun_mk (st := s_merged) l9 c9 k9
  have F10 := fun_mk (st := s_normal_form) l10 c10 k10
  have F11 := fun_mk (st := s_same_policy) l11 c11 k11
  have F12 := fun_mk (st := s_law_rng) l12 c12 k12
  have F13 := fun_mk (st := s_law_draw) l13 c13 k13
  have F14 := fun_mk (st := s_law_wait) l14 c14 k14
  have F15 := fun_mk (st := s_law_flat) l15 c15 k15
  have F16 := fun_mk (st := s_law_block) l16 c16 k16
  have F17 := fun_mk (st := s_law_form) l17 c17 k17
  have F18 := fun_mk (st := s_law_factors) l18 c18 k18
  have F19 := fun_mk (st := s_law_written) l19 c19 k19
  have F20 := fun_mk (st := s_law_long_right) l20 c20 k20
  have F21 := fun_mk (st := s_law_merged) l21 c21 k21
  have F22 := fun_mk (st := s_law) l22 c22 k22
  have b0 := F0.binds (ps := ["waits"]) fun _ _ _ _ _ _ us hl => match us, hl with | [_], _ => rfl
  have b1 := F1.binds (ps := ["layer"]) fun _ _ _ _ _ _ us hl => match us, hl with | [_], _ => rfl
  have b2 := F2.binds (ps := ["nesting"]) fun _ _ _ _ _ _ us hl => match us, hl with | [_], _ => rfl
  have b3 := F3.binds (ps := ["waits", "number"]) fun _ _ _ _ _ _ us hl => match us, hl with | [_, _], _ => rfl
  have b4 := F4.binds (ps := ["waits", "number"]) fun _ _ _ _ _ _ us hl => match us, hl with | [_, _], _ => rfl
  have b5 := F5.binds (ps := ["waits"]) fun _ _ _ _ _ _ us hl => match us, hl with | [_], _ => rfl
  have b6 := F6.binds (ps := ["waits"]) fun _ _ _ _ _ _ us hl => match us, hl with | [_], _ => rfl
  have b7 := F7.binds (ps := ["layer"]) fun _ _ _ _ _ _ us hl => match us, hl with | [_], _ => rfl
  have b8 := F8.binds (ps := ["first", "second"]) fun _ _ _ _ _ _ us hl => match us, hl with | [_, _], _ => rfl
  have b9 := F9.binds (ps := ["layers"]) fun _ _ _ _ _ _ us hl => match us, hl with | [_], _ => rfl
  have b10 := F10.binds (ps := ["nesting"]) fun _ _ _ _ _ _ us hl => match us, hl with | [_], _ => rfl
  have b11 := F11.binds (ps := ["first", "second"]) fun _ _ _ _ _ _ us hl => match us, hl with | [_, _], _ => rfl
  have b12 := F12.binds (ps := ["script"]) fun _ _ _ _ _ _ us hl => match us, hl with | [_], _ => rfl
  have b13 := F13.binds (ps := ["rng", "limit"]) fun _ _ _ _ _ _ us hl => match us, hl with | [_, _], _ => rfl
  have b14 := F14.binds (ps := ["rng", "kinds_here"]) fun _ _ _ _ _ _ us hl => match us, hl with | [_, _], _ => rfl
  have b15 := F15.binds (ps := ["layers"]) fun _ _ _ _ _ _ us hl => match us, hl with | [_], _ => rfl
  have b16 := F16.binds (ps := ["rng"]) fun _ _ _ _ _ _ us hl => match us, hl with | [_], _ => rfl
  have b17 := F17.binds (ps := ["rng", "most"]) fun _ _ _ _ _ _ us hl => match us, hl with | [_, _], _ => rfl
  have b18 := F18.binds (ps := ["rng", "size"]) fun _ _ _ _ _ _ us hl => match us, hl with | [_, _], _ => rfl
  have b19 := F19.binds (ps := ["rng", "form"]) fun _ _ _ _ _ _ us hl => match us, hl with | [_, _], _ => rfl
  have b20 := F20.binds (ps := ["rng"]) fun _ _ _ _ _ _ us hl => match us, hl with | [_], _ => rfl
  have b21 := F21.binds (ps := ["rng", "layers"]) fun _ _ _ _ _ _ us hl => match us, hl with | [_, _], _ => rfl
  have b22 := F22.binds (ps := ["script"]) fun _ _ _ _ _ _ us hl => match us, hl with | [_], _ => rfl
  have T : Txt K mg := ⟨f0, _, F0, PySem.W.mg_of X G a0, b0, f1, _, F1, PySem.W.mg_of X G a1, b1, f2, _, F2, PySem.W.mg_of X G a2, b2, f3, _, F3, PySem.W.mg_of X G a3, b3, f4, _, F4, PySem.W.mg_of X G a4, b4, f5, _, F5, PySem.W.mg_of X G a5, b5, f6, _, F6, PySem.W.mg_of X G a6, b6, f7, _, F7, PySem.W.mg_of X G a7, b7, f8, _, F8, PySem.W.mg_of X G a8, b8, f9, _, F9, PySem.W.mg_of X G a9, b9, f10, _, F10, PySem.W.mg_of X G a10, b10, f11, _, F11, PySem.W.mg_of X G a11, b11, f12, _, F12, PySem.W.mg_of X G a12, b12, f13, _, F13, PySem.W.mg_of X G a13, b13, f14, _, F14, PySem.W.mg_of X G a14, b14, f15, _, F15, PySem.W.mg_of X G a15, b15, f16, _, F16, PySem.W.mg_of X G a16, b16, f17, _, F17, PySem.W.mg_of X G a17, b17, f18, _, F18, PySem.W.mg_of X G a18, b18, f19, _, F19, PySem.W.mg_of X G a19, b19, f20, _, F20, PySem.W.mg_of X G a20, b20, f21, _, F21, PySem.W.mg_of X G a21, b21, fa, _, F22, PySem.W.mg_of X G a22, b22, PySem.W.mg_none_of X G z0, PySem.W.mg_none_of X G z1, PySem.W.mg_none_of X G z2, PySem.W.mg_none_of X G z3, PySem.W.mg_none_of X G z4, PySem.W.mg_none_of X G z5, PySem.W.mg_none_of X G z6, PySem.W.mg_none_of X G z7⟩
  exact ⟨_, fun s v => .of_eq rfl, fun base _ _ => ok_law ⟨f0, _, F0, PySem.W.mg_of X G a0, b0, f1, _, F1, PySem.W.mg_of X G a1, b1, f2, _, F2, PySem.W.mg_of X G a2, b2, f3, _, F3, PySem.W.mg_of X G a3, b3, f4, _, F4, PySem.W.mg_of X G a4, b4, f5, _, F5, PySem.W.mg_of X G a5, b5, f6, _, F6, PySem.W.mg_of X G a6, b6, f7, _, F7, PySem.W.mg_of X G a7, b7, f8, _, F8, PySem.W.mg_of X G a8, b8, f9, _, F9, PySem.W.mg_of X G a9, b9, f10, _, F10, PySem.W.mg_of X G a10, b10, f11, _, F11, PySem.W.mg_of X G a11, b11, f12, _, F12, PySem.W.mg_of X G a12, b12, f13, _, F13, PySem.W.mg_of X G a13, b13, f14, _, F14, PySem.W.mg_of X G a14, b14, f15, _, F15, PySem.W.mg_of X G a15, b15, f16, _, F16, PySem.W.mg_of X G a16, b16, f17, _, F17, PySem.W.mg_of X G a17, b17, f18, _, F18, PySem.W.mg_of X G a18, b18, f19, _, F19, PySem.W.mg_of X G a19, b19, f20, _, F20, PySem.W.mg_of X G a20, b20, f21, _, F21, PySem.W.mg_of X G a21, b21, fa, _, F22, PySem.W.mg_of X G a22, b22, PySem.W.mg_none_of X G z0, PySem.W.mg_none_of X G z1, PySem.W.mg_none_of X G z2, PySem.W.mg_none_of X G z3, PySem.W.mg_none_of X G z4, PySem.W.mg_none_of X G z5, PySem.W.mg_none_of X G z6, PySem.W.mg_none_of X G z7⟩⟩
end Rn
open PySem PySem.W PyProof.Rows
set_option maxRecDepth 100000 in
set_option maxHeartbeats 0 in
theorem PySem.Challenge.cw_retrynest_k12_whole_one_form_for_all_way_holds : PySem.Challenge.rw_retrynest_k12_whole_one_form_for_all_way.Holds := by
  w_on; o_law; k_head; (case hw => w_witness2)
  k_fill
  refine L2.walk_ofK (l := PySem.Challenge.rw_retrynest_k12_whole_one_form_for_all_way) (n := 63) (k := Rn.lvl_law) (x := "script") (CX := L2.CX0) (sp := Rn.sp_law) rfl (by decide) rfl ⟨rfl, by decide, by decide⟩ (fun w h Y => PySem.W.kIn_of Y) ?F (fun _ _ a ns hl _ hS => ⟨a, ns, rfl, hS, hl, fun _ => rfl⟩) (fun _ _ _ _ h => h)
  case F =>
    intro w mg fa h KX G hmg
    refine' Rn.all_mk KX G hmg ?a0 ?l0 ?c0 ?k0 ?a1 ?l1 ?c1 ?k1 ?a2 ?l2 ?c2 ?k2 ?a3 ?l3 ?c3 ?k3 ?a4 ?l4 ?c4 ?k4 ?a5 ?l5 ?c5 ?k5 ?a6 ?l6 ?c6 ?k6 ?a7 ?l7 ?c7 ?k7 ?a8 ?l8 ?c8 ?k8 ?a9 ?l9 ?c9 ?k9 ?a10 ?l10 ?c10 ?k10 ?a11 ?l11 ?c11 ?k11 ?a12 ?l12 ?c12 ?k12 ?a13 ?l13 ?c13 ?k13 ?a14 ?l14 ?c14 ?k14 ?a15 ?l15 ?c15 ?k15 ?a16 ?l16 ?c16 ?k16 ?a17 ?l17 ?c17 ?k17 ?a18 ?l18 ?c18 ?k18 ?a19 ?l19 ?c19 ?k19 ?a20 ?l20 ?c20 ?k20 ?a21 ?l21 ?c21 ?k21 ?a22 ?l22 ?c22 ?k22 ?z0 ?z1 ?z2 ?z3 ?z4 ?z5 ?z6 ?z7
    (case a0 => k_is); (case l0 => k_is); (case c0 => k_is); (case k0 => k_is); (case a1 => k_is); (case l1 => k_is); (case c1 => k_is); (case k1 => k_is); (case a2 => k_is)
    (case l2 => k_is); (case c2 => k_is); (case k2 => k_is); (case a3 => k_is); (case l3 => k_is); (case c3 => k_is); (case k3 => k_is); (case a4 => k_is); (case l4 => k_is)
    (case c4 => k_is); (case k4 => k_is); (case a5 => k_is); (case l5 => k_is); (case c5 => k_is); (case k5 => k_is); (case a6 => k_is); (case l6 => k_is); (case c6 => k_is)
    (case k6 => k_is); (case a7 => k_is); (case l7 => k_is); (case c7 => k_is); (case k7 => k_is); (case a8 => k_is); (case l8 => k_is); (case c8 => k_is); (case k8 => k_is)
    (case a9 => k_is); (case l9 => k_is); (case c9 => k_is); (case k9 => k_is); (case a10 => k_is); (case l10 => k_is); (case c10 => k_is); (case k10 => k_is); (case a11 => k_is)
    (case l11 => k_is); (case c11 => k_is); (case k11 => k_is); (case a12 => k_is); (case l12 => k_is); (case c12 => k_is); (case k12 => k_is); (case a13 => k_is)
    (case l13 => k_is); (case c13 => k_is); (case k13 => k_is); (case a14 => k_is); (case l14 => k_is); (case c14 => k_is); (case k14 => k_is); (case a15 => k_is)
    (case l15 => k_is); (case c15 => k_is); (case k15 => k_is); (case a16 => k_is); (case l16 => k_is); (case c16 => k_is); (case k16 => k_is); (case a17 => k_is)
    (case l17 => k_is); (case c17 => k_is); (case k17 => k_is); (case a18 => k_is); (case l18 => k_is); (case c18 => k_is); (case k18 => k_is); (case a19 => k_is)
    (case l19 => k_is); (case c19 => k_is); (case k19 => k_is); (case a20 => k_is); (case l20 => k_is); (case c20 => k_is); (case k20 => k_is); (case a21 => k_is)
    (case l21 => k_is); (case c21 => k_is); (case k21 => k_is); (case a22 => k_is); (case l22 => k_is); (case c22 => k_is); (case k22 => k_is); (case z0 => k_is)
    (case z1 => k_is); (case z2 => k_is); (case z3 => k_is); (case z4 => k_is); (case z5 => k_is); (case z6 => k_is); (case z7 => k_is)
