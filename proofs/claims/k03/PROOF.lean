import PyProof.Rows.All
import Wide.All
import OpenK.AllK
import Wide.FinOn
import HandS.ForMost
import HandS.Wide
import HandS.IsInst
import HandS.NoneIn
import PySem.Challenge.RW_retrynest_k03_numbers_of_attempts
set_option Elab.async false
set_option linter.all false
set_option maxRecDepth 100000
set_option maxHeartbeats 4000000
namespace Rn
open PySem PySem.Spec PyProof.Rows L2

/-! ## heaps -/
theorem same_new {H : Hp} {p : Addr} {o : HO} (h : H p = none) : Same H (upd H p o) := fun b x e => by
  rw [upd_ne (ne_of_none e h)]
  exact e
theorem same_keep {H H' : Hp} {p : Addr} {o : HO} (e : Same H H') (h : H p = none) : Same H (upd H' p o) := fun b x q => by
  rw [upd_ne (ne_of_none q h)]
  exact e b x q
theorem sql {K : PySem.W.Frag} {H : Hp} {p : Addr} {xs : List V} (h : H p = some (.lst xs)) : SqL K H p xs := .inl (.inl h)
theorem sqt {K : PySem.W.Frag} {H : Hp} {p : Addr} {xs : List V} (h : H p = some (.tup xs)) : SqT K H p xs := .inl (.inl h)
/-- the source's two objects hidden -/
def hid (a d : Addr) (H : Hp) : Hp := fun b => if b = a ∨ b = d then none else H b
theorem hid_get {a d : Addr} {H : Hp} {b : Addr} {o : HO} (h : hid a d H b = some o) : H b = some o ∧ b ≠ a ∧ b ≠ d := by
  unfold hid at h
  by_cases e : b = a ∨ b = d
  · rw [if_pos e] at h
    cases h
  · rw [if_neg e] at h
    exact ⟨h, fun z => e (.inl z), fun z => e (.inr z)⟩
theorem hid_at {a d : Addr} {H : Hp} {b : Addr} {o : HO} (h : H b = some o) (ha : b ≠ a) (hd : b ≠ d) : hid a d H b = some o := by
  unfold hid
  rw [if_neg (fun z => z.elim ha hd)]
  exact h
theorem hid_none {a d : Addr} {H : Hp} {b : Addr} (h : H b = none) : hid a d H b = none := by
  unfold hid
  split
  · rfl
  · exact h
theorem hid_same {a d : Addr} {H H' : Hp} (e : Same H H') : Same (hid a d H) (hid a d H') := fun b o h => by
  obtain ⟨h1, h2, h3⟩ := hid_get h
  exact hid_at (e _ _ h1) h2 h3
theorem hid_src1 {a d : Addr} {H : Hp} {o : HO} : hid a d (upd H a o) = hid a d H := by
  funext b
  unfold hid
  by_cases e : b = a ∨ b = d
  · rw [if_pos e, if_pos e]
  · rw [if_neg e, if_neg e, upd_ne fun z => e (.inl z)]
theorem hid_src2 {a d : Addr} {H : Hp} {o : HO} : hid a d (upd H d o) = hid a d H := by
  funext b
  unfold hid
  by_cases e : b = a ∨ b = d
  · rw [if_pos e, if_pos e]
  · rw [if_neg e, if_neg e, upd_ne fun z => e (.inr z)]
theorem hid_oth {a d : Addr} {H : Hp} {p : Addr} {o : HO} (ha : p ≠ a) (hd : p ≠ d) : hid a d (upd H p o) = upd (hid a d H) p o := by
  funext b
  by_cases e : b = p
  · rw [e, upd_same]
    exact hid_at upd_same ha hd
  · rw [upd_ne e]
    unfold hid
    rw [upd_ne e]

/-! ## the source of draws: a list at a, its digits at d; at most n draws were mixed -/
def Src (H : Hp) (a d : Addr) (n : Int) : Prop := ∃ (cur mix cnt : Int) (ds : List Int), H a = some (.lst [.ref d, .int cur, .int mix, .int cnt]) ∧ H d = some (.lst (ds.map V.int)) ∧
  0 ≤ mix ∧ mix < 2305843009213693951 ∧ 0 ≤ cnt ∧ cnt ≤ n
theorem Src.ne {H : Hp} {a d : Addr} {n : Int} (s : Src H a d n) : a ≠ d := by
  obtain ⟨cur, mix, cnt, ds, h1, h2, _⟩ := s
  intro e
  rw [e] at h1
  rw [h1] at h2
  cases ds with
  | nil => cases h2
  | cons x r =>
    have z := Option.some.inj h2
    injection z with z
    rw [List.map_cons] at z
    injection z with z1 z2
    cases z1
theorem Src.lst1 {H : Hp} {a d : Addr} {n : Int} (s : Src H a d n) : ∃ o, H a = some o := let ⟨_, _, _, _, h, _⟩ := s; ⟨_, h⟩
theorem Src.lst2 {H : Hp} {a d : Addr} {n : Int} (s : Src H a d n) : ∃ o, H d = some o := let ⟨_, _, _, _, _, h, _⟩ := s; ⟨_, h⟩
theorem Src.same {H H' : Hp} {a d : Addr} {n : Int} (s : Src H a d n) (e : Same H H') : Src H' a d n := by
  obtain ⟨cur, mix, cnt, ds, h1, h2, h3⟩ := s
  exact ⟨cur, mix, cnt, ds, e _ _ h1, e _ _ h2, h3⟩
theorem Src.keep {H : Hp} {a d p : Addr} {o : HO} {n : Int} (s : Src H a d n) (ha : p ≠ a) (hd : p ≠ d) : Src (upd H p o) a d n := by
  obtain ⟨cur, mix, cnt, ds, h1, h2, h3⟩ := s
  exact ⟨cur, mix, cnt, ds, by rw [upd_ne ha.symm]; exact h1, by rw [upd_ne hd.symm]; exact h2, h3⟩
theorem Src.mono {H : Hp} {a d : Addr} {n m : Int} (s : Src H a d n) (h : n ≤ m) : Src H a d m := by
  obtain ⟨cur, mix, cnt, ds, h1, h2, h3, h4, h5, h6⟩ := s
  exact ⟨cur, mix, cnt, ds, h1, h2, h3, h4, h5, Int.le_trans h6 h⟩
theorem Src.new1 {H : Hp} {a d p : Addr} {n : Int} (s : Src H a d n) (h : H p = none) : p ≠ a ∧ p ≠ d := by
  obtain ⟨o, h1⟩ := s.lst1
  obtain ⟨u, h2⟩ := s.lst2
  exact ⟨(ne_of_none h1 h).symm, (ne_of_none h2 h).symm⟩

/-- what a call that draws at most c times does to the heap: all but the source stays, the source is a source -/
structure Adv (a d : Addr) (c : Int) (H H' : Hp) : Prop where
  same : Same (hid a d H) (hid a d H')
  src : ∀ n, Src H a d n → Src H' a d (n + c)
theorem Adv.refl {a d : Addr} {H : Hp} : Adv a d 0 H H := ⟨Same.refl _, fun n s => s.mono (by omega)⟩
theorem Adv.trans {a d : Addr} {c c' e : Int} {H H1 H2 : Hp} (x : Adv a d c H H1) (y : Adv a d c' H1 H2) (h : c + c' ≤ e) : Adv a d e H H2 :=
  ⟨x.same.trans y.same, fun n s => (y.src _ (x.src _ s)).mono (by omega)⟩
theorem Adv.mono {a d : Addr} {c e : Int} {H H1 : Hp} (x : Adv a d c H H1) (h : c ≤ e) : Adv a d e H H1 := ⟨x.same, fun n s => (x.src _ s).mono (by omega)⟩
theorem Adv.of {a d : Addr} {H H' : Hp} (e : Same H H') : Adv a d 0 H H' := ⟨hid_same e, fun n s => (s.same e).mono (by omega)⟩
/-- .. where a new object of the way has changed -/
theorem Adv.mut {a d : Addr} {c : Int} {H H' : Hp} {p : Addr} {o : HO} {n : Int} (x : Adv a d c H H') (s : Src H a d n) (h : H p = none) : Adv a d c H (upd H' p o) := by
  obtain ⟨h1, h2⟩ := s.new1 h
  refine ⟨?_, fun m t => (x.src m t).keep h1 h2⟩
  rw [hid_oth h1 h2]
  exact same_keep x.same (hid_none h)
/-- free behind is free ahead -/
theorem Adv.free {a d p : Addr} {c n : Int} {H H' : Hp} (x : Adv a d c H H') (s : Src H a d n) (h : H' p = none) : H p = none := by
  have s' := x.src n s
  obtain ⟨h1, h2⟩ := s'.new1 h
  cases q : H p with
  | none => rfl
  | some o =>
    have e := (hid_get (x.same p o (hid_at q h1 h2))).1
    rw [h] at e
    cases e
theorem Adv.made {a d : Addr} {c cur mix cnt cur' cnt' : Int} {H H' : Hp} {ds' : List Int} (e : Same (hid a d H) (hid a d H')) (h : H a = some (.lst [.ref d, .int cur, .int mix, .int cnt]))
    (h' : H' a = some (.lst [.ref d, .int cur', .int mix, .int cnt'])) (hd' : H' d = some (.lst (ds'.map V.int))) (h0 : cnt ≤ cnt') (h1 : cnt' ≤ cnt + c) : Adv a d c H H' := by
  refine ⟨e, fun n s => ?_⟩
  obtain ⟨cu, mi, cn, ds, a1, a2, a3, a4, a5, a6⟩ := s
  rw [h] at a1
  cases a1
  exact ⟨cur', mix, cnt', ds', h', hd', a3, a4, by omega, by omega⟩
theorem small64 {x b : Int} (h0 : 0 ≤ x) (h1 : x < b) (hb : b ≤ 18446744073709551616) : x.natAbs < 2 ^ 64 := by omega

/-! ## ints in lists -/
theorem map_get {ns : List Int} {i : Nat} {x : Int} (h : ns[i]? = some x) : (ns.map V.int)[i]? = some (.int x) := by
  rw [List.getElem?_map, h]
  rfl
theorem at_int {ns : List Int} {i : Int} (h0 : 0 ≤ i) (h : i < ns.length) : ∃ x, x ∈ ns ∧ ns[i.toNat]? = some x ∧ atI (ns.map V.int) i = some (.int x) := by
  obtain ⟨j, rfl⟩ : ∃ j : Nat, i = (j : Int) := ⟨i.toNat, by omega⟩
  have hi : j < ns.length := by omega
  exact ⟨ns[j], List.getElem_mem hi, List.getElem?_eq_getElem hi, atI_nat (map_get (List.getElem?_eq_getElem hi))⟩
theorem at_val {xs : List V} {i : Int} (h0 : 0 ≤ i) (h : i < xs.length) : ∃ x, x ∈ xs ∧ xs[i.toNat]? = some x ∧ atI xs i = some x := by
  obtain ⟨j, rfl⟩ : ∃ j : Nat, i = (j : Int) := ⟨i.toNat, by omega⟩
  have hi : j < xs.length := by omega
  exact ⟨xs[j], List.getElem_mem hi, List.getElem?_eq_getElem hi, atI_nat (List.getElem?_eq_getElem hi)⟩
theorem size_le {n : Nat} (h : n ≤ 100000) : n ≤ sizeLine := Nat.le_trans h (by decide)
theorem size_lt {n : Nat} (h : n < 100000) : n < sizeLine := Nat.lt_of_lt_of_le h (by decide)
mutual
theorem eqv_refl' : ∀ d : PyData, d.canLay0 = true → PyData.eqv d d = true
  | .none, _ => rfl
  | .bool b, _ => by simp [PyData.eqv]
  | .int i, _ => by simp [PyData.eqv]
  | .str x, _ => by simp [PyData.eqv]
  | .list xs, h => by
    simp only [PyData.eqv]
    exact eqvAll_refl' xs (by simpa [PyData.canLay0] using h)
  | .tuple xs, h => by
    simp only [PyData.eqv]
    exact eqvAll_refl' xs (by simpa [PyData.canLay0] using h)
  | .dict _, h => by simp [PyData.canLay0] at h
theorem eqvAll_refl' : ∀ ds : List PyData, PyData.canLayAll0 ds = true → PyData.eqvAll ds ds = true
  | [], _ => by simp [PyData.eqvAll]
  | d :: ds, h => by
    have h' : d.canLay0 = true ∧ PyData.canLayAll0 ds = true := by simpa [PyData.canLayAll0] using h
    simp only [PyData.eqvAll, Bool.and_eq_true]
    exact ⟨eqv_refl' d h'.1, eqvAll_refl' ds h'.2⟩
end
/-- a list of ints as data -/
def dInts (ns : List Int) : PyData := .list (ns.map .int)
theorem eqvAll_ints : ∀ ns ms : List Int, PyData.eqvAll (ns.map .int) (ms.map .int) = decide (ns = ms)
  | [], [] => by simp [PyData.eqvAll]
  | [], _ :: _ => by simp [PyData.eqvAll]
  | _ :: _, [] => by simp [PyData.eqvAll]
  | n :: ns, m :: ms => by
    have ih := eqvAll_ints ns ms
    simp only [List.map_cons, PyData.eqvAll, PyData.eqv, ih]
    by_cases h1 : n = m <;> by_cases h2 : ns = ms <;> simp [h1, h2]
theorem eqv_ints (ns ms : List Int) : PyData.eqv (dInts ns) (dInts ms) = decide (ns = ms) := by
  unfold dInts
  simp only [PyData.eqv]
  exact eqvAll_ints ns ms
theorem canLay_ints : ∀ ns : List Int, PyData.canLayAll0 (ns.map .int) = true
  | [] => by simp [PyData.canLayAll0]
  | n :: ns => by simp [PyData.canLayAll0, PyData.canLay0, canLay_ints ns]
theorem depth_ints : ∀ ns : List Int, PyData.depthAll (ns.map .int) ≤ 1
  | [] => by simp [PyData.depthAll]
  | n :: ns => by
    have := depth_ints ns
    simp only [List.map_cons, PyData.depthAll, PyData.depth]
    omega
theorem shaped_ints (ns : List Int) : SeqAt.shaped (dInts ns) = true := by
  have h := depth_ints ns
  unfold SeqAt.shaped
  rw [Bool.and_eq_true]
  refine ⟨?_, decide_eq_true ?_⟩
  · unfold dInts
    simp only [PyData.canLay0, canLay_ints]
  · unfold dInts
    simp only [PyData.depth]
    omega
theorem dp_all {K : PySem.W.Frag} {H : Hp} : ∀ ns : List Int, DpAll K H (ns.map V.int) (ns.map .int)
  | [] => .nil
  | n :: ns => .cons (.int n) (dp_all ns)
theorem dp_ints {K : PySem.W.Frag} {H : Hp} {p : Addr} {ns : List Int} (h : SqL K H p (ns.map V.int)) : Dp K H (.ref p) (dInts ns) := .lst h (dp_all ns)
theorem dp_nil {K : PySem.W.Frag} {H : Hp} {p : Addr} (h : SqL K H p []) : Dp K H (.ref p) (dInts []) := .lst h .nil

/-! ## loops -/
/-- for i, x in enumerate(xs), xs left as it is -/
theorem for_enum {K : PySem.W.Frag} {a : Addr} {xs : List V} {g : TG} {tb : TS} {D : Ends} {σ : L2.St} {H : Hp} (Pv : Nat → L2.St → Hp → Prop) (h0 : Pv 0 σ H)
    (hl : ∀ i σ H, i ≤ xs.length → Pv i σ H → SqL K H a xs)
    (hs : ∀ i x σ H T, xs[i]? = some x → Pv i σ H → H T = none → g (.ref T) σ (upd H T (.tup [.int (i : Nat), x])) fun σ2 H2 => tb { D with nx := Pv (i + 1), ct := Pv (i + 1), bk := D.nx } σ2 H2)
    (hd : ∀ σ H, Pv xs.length σ H → D.nx σ H) :
    ∃ W : Nat → Nat → L2.St → Hp → Prop, (∃ m, W 0 m σ H) ∧ ∀ i m σ H, W i m σ H →
      ((Ite K a).stop i H ∧ D.nx σ H) ∨ ((Ite K a).go i H ∧ ∃ N : L2.St → Hp → Prop, (∀ σ' H', N σ' H' → ∃ m', m' < m ∧ W (i + 1) m' σ' H') ∧
        ∀ x H', (Ite K a).yld i H x H' → g x σ H' fun σ2 H2 => tb { D with nx := N, ct := N, bk := D.nx } σ2 H2) := by
  refine ⟨fun i m σ' H' => m + i = xs.length ∧ Pv i σ' H', ⟨xs.length, rfl, h0⟩, fun i m σ' H' hW => ?_⟩
  obtain ⟨em, hp⟩ := hW
  have hq := hl i σ' H' (by omega) hp
  by_cases hi : i < xs.length
  · refine .inr ⟨⟨xs, xs[i], hq, List.getElem?_eq_getElem hi⟩, Pv (i + 1), fun σ2 H2 h2 => ⟨m - 1, by omega, by omega, h2⟩, fun x H2 hy => ?_⟩
    obtain ⟨T, y, rfl, nT, rfl, hx⟩ := hy
    exact hs i y σ' H' T (hx xs hq) hp nT
  · have e : i = xs.length := by omega
    subst e
    exact .inl ⟨⟨xs, hq, Nat.le_refl _⟩, hd σ' H' hp⟩

/-! ## kinds -/
section
variable {K : PySem.W.Frag} {H : Hp} {p : Addr} {xs : List V} {Q : VK}
theorem isi_tt (h : H p = some (.tup xs)) (q : Q (.bl true) H) : rIsi K [.ref p, .ty "tuple"] H Q := ⟨_, _, _, _, _, rfl, .ty "tuple", .base (.tup h), kit_ty (by decide +kernel), q⟩
theorem isi_lt (h : H p = some (.lst xs)) (q : Q (.bl false) H) : rIsi K [.ref p, .ty "tuple"] H Q := ⟨_, _, _, _, _, rfl, .ty "tuple", .base (.lst h), kit_ty (by decide +kernel), q⟩
theorem isi_ll (h : H p = some (.lst xs)) (q : Q (.bl true) H) : rIsi K [.ref p, .ty "list"] H Q := ⟨_, _, _, _, _, rfl, .ty "list", .base (.lst h), kit_ty (by decide +kernel), q⟩
theorem isi_tl (h : H p = some (.tup xs)) (q : Q (.bl false) H) : rIsi K [.ref p, .ty "list"] H Q := ⟨_, _, _, _, _, rfl, .ty "list", .base (.tup h), kit_ty (by decide +kernel), q⟩
end

/-! ## policies and layers -/
/-- the inner one, then each wait of the outer one and the inner one again -/
def nestL {α : Type} (xs ys : List α) : List α := xs ++ ys.flatMap fun y => y :: xs
theorem nestL_map {α β : Type} (f : α → β) (xs ys : List α) : (nestL xs ys).map f = nestL (xs.map f) (ys.map f) := by
  unfold nestL
  rw [List.map_append, List.map_flatMap, List.flatMap_map]
  congr 1
theorem flatMap_len {α β : Type} (f : α → List β) (n : Nat) (h : ∀ x, (f x).length = n) : ∀ l : List α, (l.flatMap f).length = l.length * n
  | [] => by simp
  | x :: l => by
    rw [List.flatMap_cons, List.length_append, h x, flatMap_len f n h l, List.length_cons, Nat.succ_mul, Nat.add_comm]
theorem nestL_len {α : Type} (xs ys : List α) : (nestL xs ys).length + 1 = (xs.length + 1) * (ys.length + 1) := by
  unfold nestL
  rw [List.length_append, flatMap_len _ (xs.length + 1) (fun _ => rfl)]
  generalize xs.length = a
  generalize ys.length = b
  have e1 : (a + 1) * (b + 1) = a * b + a + (b + 1) := by rw [Nat.add_mul, Nat.mul_add, Nat.mul_one, Nat.one_mul]
  have e2 : b * (a + 1) = a * b + b := by rw [Nat.mul_add, Nat.mul_one, Nat.mul_comm]
  omega
theorem nestL_nil {α : Type} (xs : List α) : nestL xs [] = xs := by
  unfold nestL
  simp
theorem nil_nestL {α : Type} (ys : List α) : nestL [] ys = ys := by
  unfold nestL
  simp
theorem nestL_mem {α : Type} {xs ys : List α} {z : α} (h : z ∈ nestL xs ys) : z ∈ xs ∨ z ∈ ys := by
  unfold nestL at h
  rw [List.mem_append, List.mem_flatMap] at h
  rcases h with h | ⟨y, hy, h⟩
  · exact .inl h
  · rcases List.mem_cons.mp h with e | h
    · exact .inr (e ▸ hy)
    · exact .inl h
inductive Lay where
  | pol (ns : List Int)
  | con (w n : Int)
def Lay.cnt : Lay → Int
  | .pol ns => (ns.length : Int) + 1
  | .con _ n => n
def Lay.waits : Lay → List Int
  | .pol ns => ns
  | .con w n => List.replicate (n - 1).toNat w
def Lay.ok : Lay → Bool
  | .pol ns => ns.all fun x => decide (0 ≤ x)
  | .con w n => decide (0 ≤ w) && decide (1 ≤ n)
theorem Lay.ok_con (w n : Int) : (Lay.con w n).ok = (decide (0 ≤ w) && decide (1 ≤ n)) := rfl
theorem Lay.ok_pol (ns : List Int) : (Lay.pol ns).ok = ns.all fun x => decide (0 ≤ x) := rfl
def LayAt (H : Hp) (v : V) : Lay → Prop
  | .pol ns => ∃ p, v = .ref p ∧ H p = some (.lst (ns.map V.int))
  | .con w n => ∃ p, v = .ref p ∧ H p = some (.tup [.int w, .int n])
theorem LayAt.same {H H' : Hp} {v : V} {L : Lay} (h : LayAt H v L) (e : Same H H') : LayAt H' v L := by
  cases L with
  | pol ns => obtain ⟨p, h1, h2⟩ := h; exact ⟨p, h1, e _ _ h2⟩
  | con w n => obtain ⟨p, h1, h2⟩ := h; exact ⟨p, h1, e _ _ h2⟩
theorem LayAt.ref {H : Hp} {v : V} {L : Lay} (h : LayAt H v L) : ∃ p, v = .ref p := by
  cases L with
  | pol ns => obtain ⟨p, h1, _⟩ := h; exact ⟨p, h1⟩
  | con w n => obtain ⟨p, h1, _⟩ := h; exact ⟨p, h1⟩
def NestAt (H : Hp) (q : Addr) (Ls : List Lay) : Prop := ∃ vs, H q = some (.lst vs) ∧ vs.length = Ls.length ∧ ∀ (i : Nat) v L, vs[i]? = some v → Ls[i]? = some L → LayAt H v L
theorem NestAt.same {H H' : Hp} {q : Addr} {Ls : List Lay} (h : NestAt H q Ls) (e : Same H H') : NestAt H' q Ls := by
  obtain ⟨vs, h1, h2, h3⟩ := h
  exact ⟨vs, e _ _ h1, h2, fun i v L a b => (h3 i v L a b).same e⟩
theorem LayAt.con_pos {L : Lay} (h : L.ok = true) : 1 ≤ L.cnt := by
  cases L with
  | pol ns => show (1 : Int) ≤ (ns.length : Int) + 1; omega
  | con w n =>
    unfold Lay.ok at h
    rw [Bool.and_eq_true] at h
    exact of_decide_eq_true h.2
def attOf (Ls : List Lay) : Int := Ls.foldl (fun t L => t * L.cnt) 1
def flatL (Ls : List Lay) : List Int := Ls.foldl (fun acc L => if L.cnt > 1 then nestL acc L.waits else acc) []
theorem nest_of {H : Hp} {q : Addr} {vs : List V} {Ls : List Lay} (h : H q = some (.lst vs)) (p : Paired (LayAt H) vs Ls) : NestAt H q Ls := by
  refine ⟨vs, h, Paired.length p, ?_⟩
  clear h
  induction p with
  | nil =>
    intro i v L h
    cases h
  | cons r t ih =>
    intro i v L h1 h2
    cases i with
    | zero =>
      cases h1
      cases h2
      exact r
    | succ i => exact ih i v L h1 h2
theorem flatL_eq : ∀ (Ls : List Lay) (acc : List Int), (∀ L ∈ Ls, L.ok = true) → Ls.foldl (fun acc L => if L.cnt > 1 then nestL acc L.waits else acc) acc = Ls.foldl (fun acc L => nestL acc L.waits) acc
  | [], _, _ => rfl
  | L :: Ls, acc, h => by
    have h1 := LayAt.con_pos (h L List.mem_cons_self)
    have e : (if L.cnt > 1 then nestL acc L.waits else acc) = nestL acc L.waits := by
      split
      · rfl
      · have hw : L.waits = [] := by
          cases L with
          | pol ns =>
            have : (ns.length : Int) + 1 = (Lay.pol ns).cnt := rfl
            exact List.length_eq_zero_iff.mp (by show ns.length = 0; omega)
          | con w n =>
            have : n = (Lay.con w n).cnt := rfl
            show List.replicate (n - 1).toNat w = []
            rw [show (n - 1).toNat = 0 by omega]
            rfl
        rw [hw, nestL_nil]
    rw [List.foldl_cons, List.foldl_cons, e]
    exact flatL_eq Ls _ fun M hM => h M (List.mem_cons_of_mem _ hM)
theorem flatL_fold {Ls : List Lay} (h : ∀ L ∈ Ls, L.ok = true) : flatL Ls = Ls.foldl (fun acc L => nestL acc L.waits) [] := flatL_eq Ls [] h
theorem nestL_assoc {α : Type} (xs ys zs : List α) : nestL (nestL xs ys) zs = nestL xs (nestL ys zs) := by
  unfold nestL
  rw [List.flatMap_append, List.append_assoc]
  congr 1
  congr 1
  induction zs with
  | nil => rfl
  | cons z zs ih =>
    simp only [List.flatMap_cons, List.flatMap_append, List.cons_append, List.append_assoc] at ih ⊢
    rw [ih]
theorem pol_ok {ns : List Int} (h : ∀ x ∈ ns, 0 ≤ x ∧ x < 1000000000000) : (Lay.pol ns).ok = true := by
  rw [Lay.ok_pol, List.all_eq_true]
  exact fun x hx => decide_eq_true (h x hx).1
theorem ne_no {ns ms : List Int} {A B : Prop} (h : ns = ms) (b : B) : if (!PyData.eqv (dInts ns) (dInts ms)) = true then A else B := by
  rw [eqv_ints, decide_eq_true h]
  exact iteF b

/-! ## rules of the written part in a comprehension's block -/
section
variable {X : Cx} {K : PySem.W.Frag}
theorem ix_listK (h : X.K = K) : IxR X (rIxL K) := by subst h; exact ix_list
theorem ix_tupK (h : X.K = K) : IxR X (rIxT K) := by subst h; exact ix_tup
theorem sl_listK (h : X.K = K) : SlR X (rSlL K) := by subst h; exact sl_list
theorem op_eqDK (h : X.K = K) (hu : X.A.units + 64 < cLine) : OpR X (compareOp .Eq) (rEqD K) := by subst h; exact op_eqD hu
theorem op_neDK (h : X.K = K) (hu : X.A.units + 64 < cLine) : OpR X (compareOp .NotEq) (rNeD K) := by subst h; exact op_neD hu
theorem op_in_seqK (h : X.K = K) : OpR X (compareOp .In) (rIn K false) := by subst h; exact op_in_seq
theorem op_notIn_seqK (h : X.K = K) : OpR X (compareOp .NotIn) (rIn K true) := by subst h; exact op_notIn_seq
theorem call_isiK1 (h : X.K = K) : CallR X (.builtin "isinstance") (rIsi K) := by subst h; exact call_isi
def rLenK (K : PySem.W.Frag) : List V → Hp → VK → Prop := fun xs H Q => ∃ p ys, xs = [.ref p] ∧ (SqL K H p ys ∨ SqT K H p ys) ∧ Q (.int (ys.length : Int)) H
theorem call_len_seqK (h : X.K = K) : CallR X (.builtin "len") (rLenK K) := by subst h; exact call_len_seq
def rListK (K : PySem.W.Frag) : List V → Hp → VK → Prop := fun xs H Q => ∃ p ys, xs = [.ref p] ∧ (SqL K H p ys ∨ SqT K H p ys) ∧ ∀ l, H l = none → Q (.ref l) (upd H l (.lst ys))
theorem call_list_ofK (h : X.K = K) : CallR X (.type "list") (rListK K) := by subst h; exact call_list_of
end
theorem refs_ints {ps : List Addr} {ws : List Int} (h : ps.map V.ref = ws.map V.int) : ps = [] := by
  cases ps with
  | nil => rfl
  | cons p ps =>
    cases ws with
    | nil => cases h
    | cons w ws =>
      injection h with h1 h2
      cases h1
theorem three {α : Type} {l : List α} (h : l.length = 3) : ∃ x y z, l = [x, y, z] := by
  match l, h with
  | [x, y, z], _ => exact ⟨x, y, z, rfl⟩
theorem ixN_at {n : Nat} {i : Int} (h0 : 0 ≤ i) (h1 : i < n) : ixN n i = some i.toNat := by
  unfold ixN
  rw [if_pos h0, if_pos h1]
theorem eq_yes {ns ms : List Int} (h : ns = ms) : PyData.eqv (dInts ns) (dInts ms) = true := by rw [eqv_ints, decide_eq_true h]
theorem nestL_cons {α : Type} (ns : List α) (m : α) (ms : List α) : nestL ns (m :: ms) = ns ++ m :: nestL ns ms := by
  unfold nestL
  rw [List.flatMap_cons, List.cons_append]
theorem nestL_get {α : Type} (ns : List α) : ∀ (ms : List α) (j : Nat), j < (nestL ns ms).length → (nestL ns ms)[j]? = if (j + 1) % (ns.length + 1) = 0 then ms[(j + 1) / (ns.length + 1) - 1]? else ns[(j + 1) % (ns.length + 1) - 1]?
  | [], j, h => by
    rw [nestL_nil] at h ⊢
    rw [Nat.mod_eq_of_lt (by omega), if_neg (by omega)]
    rfl
  | m :: ms, j, h => by
    rw [nestL_cons] at h ⊢
    by_cases h1 : j < ns.length
    · rw [List.getElem?_append_left h1, Nat.mod_eq_of_lt (by omega), if_neg (by omega)]
      rfl
    · by_cases h2 : j = ns.length
      · subst h2
        rw [List.getElem?_append_right (Nat.le_refl _), Nat.sub_self, Nat.mod_self, if_pos rfl, Nat.div_self (by omega)]
        rfl
      · obtain ⟨t, rfl⟩ : ∃ t, j = ns.length + 1 + t := ⟨j - (ns.length + 1), by omega⟩
        rw [List.getElem?_append_right (by omega), show ns.length + 1 + t - ns.length = t + 1 by omega, List.getElem?_cons_succ]
        rw [List.length_append, List.length_cons] at h
        rw [nestL_get ns ms t (by omega), show ns.length + 1 + t + 1 = (t + 1) + (ns.length + 1) by omega, Nat.add_mod_right, Nat.add_div_right _ (by omega)]
        by_cases h3 : (t + 1) % (ns.length + 1) = 0
        · rw [if_pos h3, if_pos h3, Nat.succ_sub_one]
          have : 1 ≤ (t + 1) / (ns.length + 1) := by
            have := Nat.div_add_mod (t + 1) (ns.length + 1)
            rw [h3] at this
            rcases Nat.eq_zero_or_pos ((t + 1) / (ns.length + 1)) with z | z
            · rw [z] at this
              omega
            · exact z
          obtain ⟨u, hu⟩ : ∃ u, (t + 1) / (ns.length + 1) = u + 1 := ⟨(t + 1) / (ns.length + 1) - 1, by omega⟩
          rw [hu]
          rfl
        · rw [if_neg h3, if_neg h3]
theorem foldl_nestL : ∀ (Ls : List Lay) (xs acc : List Int), Ls.foldl (fun acc L => nestL acc L.waits) (nestL xs acc) = nestL xs (Ls.foldl (fun acc L => nestL acc L.waits) acc)
  | [], _, _ => rfl
  | L :: Ls, xs, acc => by
    rw [List.foldl_cons, List.foldl_cons, nestL_assoc]
    exact foldl_nestL Ls xs (nestL acc L.waits)
theorem flatL_cons {L : Lay} {Ls : List Lay} (h : ∀ M ∈ L :: Ls, M.ok = true) : flatL (L :: Ls) = nestL L.waits (flatL Ls) := by
  rw [flatL_fold h, flatL_fold fun M hM => h M (List.mem_cons_of_mem _ hM), List.foldl_cons, nil_nestL]
  have := foldl_nestL Ls L.waits []
  rw [nestL_nil] at this
  exact this
/-- a nesting whose layers' objects are newer than H0 and none of them is the nesting's own list -/
def NestV (H0 G : Hp) (p : Addr) (vs : List V) (Ls : List Lay) : Prop := G p = some (.lst vs) ∧ vs.length = Ls.length ∧ (∀ (i : Nat) v L, vs[i]? = some v → Ls[i]? = some L → LayAt G v L) ∧ ∀ x, V.ref x ∈ vs → x ≠ p ∧ H0 x = none
theorem NestV.nest {H0 G : Hp} {p : Addr} {vs : List V} {Ls : List Lay} (h : NestV H0 G p vs Ls) : NestAt G p Ls := ⟨vs, h.1, h.2.1, h.2.2.1⟩
theorem NestV.same {H0 G G' : Hp} {p : Addr} {vs : List V} {Ls : List Lay} (h : NestV H0 G p vs Ls) (e : Same G G') : NestV H0 G' p vs Ls :=
  ⟨e _ _ h.1, h.2.1, fun i v L a b => (h.2.2.1 i v L a b).same e, h.2.2.2⟩
theorem NestV.nil {H0 G : Hp} {p : Addr} (h : G p = some (.lst [])) : NestV H0 G p [] [] := ⟨h, rfl, (fun _ _ _ z => nomatch z), (fun _ z => nomatch z)⟩
theorem LayAt.keep {G : Hp} {p : Addr} {o : HO} {v : V} {L : Lay} (h : LayAt G v L) (ne : ∀ x, v = V.ref x → x ≠ p) : LayAt (upd G p o) v L := by
  cases L with
  | pol ns => obtain ⟨x, e, z⟩ := h; exact ⟨x, e, by rw [upd_ne (ne x e)]; exact z⟩
  | con w n => obtain ⟨x, e, z⟩ := h; exact ⟨x, e, by rw [upd_ne (ne x e)]; exact z⟩
theorem NestV.push {H0 G : Hp} {p x : Addr} {vs : List V} {Ls : List Lay} {L : Lay} (h : NestV H0 G p vs Ls) (hx : LayAt G (.ref x) L) (ne : x ≠ p) (fr : H0 x = none) :
    NestV H0 (upd G p (.lst (vs ++ [.ref x]))) p (vs ++ [.ref x]) (Ls ++ [L]) := by
  obtain ⟨h1, h2, h3, h4⟩ := h
  refine ⟨upd_same, by rw [List.length_append, List.length_append, h2]; rfl, fun i v M a b => ?_, fun y hy => ?_⟩
  · by_cases hi : i < vs.length
    · rw [List.getElem?_append_left hi] at a
      rw [List.getElem?_append_left (by omega)] at b
      exact (h3 i v M a b).keep fun y e => (h4 y (e ▸ List.mem_of_getElem? a)).1
    · rw [List.getElem?_append_right (by omega)] at a
      rw [List.getElem?_append_right (by omega), ← h2] at b
      generalize i - vs.length = k at *
      cases k with
      | zero =>
        cases a
        cases b
        exact hx.keep fun y e => by cases e; exact ne
      | succ k => cases a
  · rcases List.mem_append.mp hy with z | z
    · exact h4 y z
    · have := List.mem_singleton.mp z
      cases this
      exact ⟨ne, fr⟩
/-- one of its lists of ints is changed in place, its length kept -/
theorem NestV.turn {H0 G : Hp} {p x : Addr} {vs : List V} {Ls : List Lay} {ws us : List Int} (h : NestV H0 G p vs Ls) (hx : G x = some (.lst (ws.map V.int))) (ne : x ≠ p) (hl : us.length = ws.length) :
    ∃ Ms : List Lay, NestV H0 (upd G x (.lst (us.map V.int))) p vs Ms ∧ Ms.map Lay.cnt = Ls.map Lay.cnt ∧ ∀ M ∈ Ms, M ∈ Ls ∨ (M = .pol us ∧ Lay.pol ws ∈ Ls) := by
  obtain ⟨h1, h2, h3, h4⟩ := h
  suffices key : ∀ (vs : List V) (Ls : List Lay), vs.length = Ls.length → (∀ (i : Nat) v L, vs[i]? = some v → Ls[i]? = some L → LayAt G v L) →
      ∃ Ms : List Lay, vs.length = Ms.length ∧ (∀ (i : Nat) v L, vs[i]? = some v → Ms[i]? = some L → LayAt (upd G x (.lst (us.map V.int))) v L) ∧ Ms.map Lay.cnt = Ls.map Lay.cnt ∧ ∀ M ∈ Ms, M ∈ Ls ∨ (M = .pol us ∧ Lay.pol ws ∈ Ls) by
    obtain ⟨Ms, k1, k2, k3, k4⟩ := key vs Ls h2 h3
    exact ⟨Ms, ⟨by rw [upd_ne ne.symm]; exact h1, k1, k2, h4⟩, k3, k4⟩
  clear h1 h2 h3 h4
  intro vs
  induction vs with
  | nil =>
    intro Ls hl _
    have : Ls = [] := List.length_eq_zero_iff.mp hl.symm
    subst this
    exact ⟨[], rfl, (fun _ _ _ z => nomatch z), rfl, (fun _ z => nomatch z)⟩
  | cons v vs ih =>
    intro Ls hlen hat
    cases Ls with
    | nil => cases hlen
    | cons L Ls =>
      obtain ⟨Ms, k1, k2, k3, k4⟩ := ih Ls (by simpa using hlen) fun i u M a b => hat (i + 1) u M a b
      have h0 := hat 0 v L rfl rfl
      by_cases e : v = V.ref x
      · subst e
        have hL : L = .pol ws := by
          cases L with
          | pol ns =>
            obtain ⟨y, e, z⟩ := h0
            cases e
            rw [hx] at z
            injection z with z
            injection z with z
            have : ∀ (as bs : List Int), as.map V.int = bs.map V.int → as = bs := by
              intro as
              induction as with
              | nil => intro bs q; cases bs with
                | nil => rfl
                | cons b bs => cases q
              | cons a as ih => intro bs q; cases bs with
                | nil => cases q
                | cons b bs =>
                  injection q with q1 q2
                  injection q1 with q1
                  rw [q1, ih bs q2]
            rw [this _ _ z]
          | con w n =>
            obtain ⟨y, e, z⟩ := h0
            cases e
            rw [hx] at z
            cases z
        refine ⟨.pol us :: Ms, by rw [List.length_cons, List.length_cons, k1], fun i u M a b => ?_, ?_, fun M hM => ?_⟩
        · cases i with
          | zero =>
            cases a
            cases b
            exact ⟨x, rfl, upd_same⟩
          | succ i => exact k2 i u M a b
        · rw [List.map_cons, List.map_cons, k3, hL]
          show ((us.length : Int) + 1) :: _ = ((ws.length : Int) + 1) :: _
          rw [hl]
        · rcases List.mem_cons.mp hM with z | z
          · exact .inr ⟨z, by rw [hL]; exact List.mem_cons_self⟩
          · rcases k4 M z with z | ⟨z1, z2⟩
            · exact .inl (List.mem_cons_of_mem _ z)
            · exact .inr ⟨z1, List.mem_cons_of_mem _ z2⟩
      · refine ⟨L :: Ms, by rw [List.length_cons, List.length_cons, k1], fun i u M a b => ?_, ?_, fun M hM => ?_⟩
        · cases i with
          | zero =>
            cases a
            cases b
            exact h0.keep fun y q z => e (by rw [q, z])
          | succ i => exact k2 i u M a b
        · rw [List.map_cons, List.map_cons, k3]
        · rcases List.mem_cons.mp hM with z | z
          · exact .inl (z ▸ List.mem_cons_self)
          · rcases k4 M z with z | ⟨z1, z2⟩
            · exact .inl (List.mem_cons_of_mem _ z)
            · exact .inr ⟨z1, List.mem_cons_of_mem _ z2⟩
theorem attOf_cnt : ∀ (Ls : List Lay) (t : Int), Ls.foldl (fun t L => t * L.cnt) t = (Ls.map Lay.cnt).foldl (fun t c => t * c) t
  | [], _ => rfl
  | L :: Ls, t => by
    rw [List.foldl_cons, List.map_cons, List.foldl_cons]
    exact attOf_cnt Ls _
theorem attOf_same {Ls Ms : List Lay} (h : Ms.map Lay.cnt = Ls.map Lay.cnt) : attOf Ms = attOf Ls := by
  unfold attOf
  rw [attOf_cnt, attOf_cnt, h]
/-- a layer that a law draws -/
def Lay.nice (L : Lay) : Prop := L.ok = true ∧ match L with
  | .pol ns => ns.length ≤ 60 ∧ ∀ x ∈ ns, 0 ≤ x ∧ x < 1000000000000
  | .con w n => w < 1000000000000 ∧ n < 1000000000000000000000
theorem Lay.nice_pol {ns : List Int} (h : ns.length ≤ 60) (hb : ∀ x ∈ ns, 0 ≤ x ∧ x < 1000000000000) : (Lay.pol ns).nice := ⟨pol_ok hb, h, hb⟩
theorem Lay.nice_con {w n : Int} (h0 : 0 ≤ w) (h1 : w < 1000000000000) (h2 : 1 ≤ n) (h3 : n < 1000000000000000000000) : (Lay.con w n).nice :=
  ⟨by rw [Lay.ok_con, decide_eq_true h0, decide_eq_true h2]; rfl, h1, h3⟩
theorem attOf_snoc (Ls : List Lay) (L : Lay) : attOf (Ls ++ [L]) = attOf Ls * L.cnt := by
  unfold attOf
  rw [List.foldl_append]
  rfl
theorem attOf_lt : ∀ n (Ls : List Lay), Ls.length = n → (∀ L ∈ Ls, L.ok = true ∧ L.cnt < 2 ^ 100) → 0 < attOf Ls ∧ (attOf Ls).natAbs < 2 ^ (100 * n + 1)
  | 0, Ls, e, _ => by
    have e' : Ls = [] := List.length_eq_zero_iff.mp e
    subst e'
    exact ⟨by decide, by decide⟩
  | n + 1, Ls, e, h => by
    have hne : Ls ≠ [] := fun z => by rw [z] at e; cases e
    obtain ⟨Ms, L, rfl⟩ : ∃ Ms L, Ls = Ms ++ [L] := ⟨_, _, (List.dropLast_concat_getLast hne).symm⟩
    rw [List.length_append] at e
    obtain ⟨i1, i2⟩ := attOf_lt n Ms (by simpa using e) fun M hM => h M (List.mem_append_left _ hM)
    obtain ⟨h1, h2⟩ := h L (List.mem_append_right _ List.mem_cons_self)
    have h3 := LayAt.con_pos h1
    rw [attOf_snoc]
    refine ⟨Int.mul_pos i1 (by omega), ?_⟩
    have z := wide_lt (i := attOf Ms) (j := L.cnt) (b := 100) i2 (by omega)
    rw [show 100 * (n + 1) + 1 = 100 * n + 1 + 100 by omega]
    exact z
theorem flatL_snoc (Ls : List Lay) (L : Lay) : flatL (Ls ++ [L]) = if L.cnt > 1 then nestL (flatL Ls) L.waits else flatL Ls := by
  unfold flatL
  rw [List.foldl_append]
  rfl
theorem waits_len {L : Lay} (h : L.ok = true) : (L.waits.length : Int) + 1 = L.cnt := by
  cases L with
  | pol ns => rfl
  | con w n =>
    have := LayAt.con_pos h
    have : 1 ≤ n := this
    show ((List.replicate (n - 1).toNat w).length : Int) + 1 = n
    rw [List.length_replicate]
    omega
theorem flatL_len : ∀ n (Ls : List Lay), Ls.length = n → (∀ L ∈ Ls, L.ok = true) → ((flatL Ls).length : Int) + 1 = attOf Ls
  | 0, Ls, e, _ => by
    have e' : Ls = [] := List.length_eq_zero_iff.mp e
    subst e'
    rfl
  | n + 1, Ls, e, h => by
    have hne : Ls ≠ [] := fun z => by rw [z] at e; cases e
    obtain ⟨Ms, L, rfl⟩ : ∃ Ms L, Ls = Ms ++ [L] := ⟨_, _, (List.dropLast_concat_getLast hne).symm⟩
    rw [List.length_append] at e
    have ih := flatL_len n Ms (by simpa using e) fun M hM => h M (List.mem_append_left _ hM)
    have h1 := h L (List.mem_append_right _ List.mem_cons_self)
    have h3 := LayAt.con_pos h1
    have h4 := waits_len h1
    rw [attOf_snoc, flatL_snoc, ← ih]
    split
    · have e5 := nestL_len (flatL Ms) L.waits
      rw [← h4]
      exact_mod_cast e5
    · have : L.cnt = 1 := by omega
      rw [this, Int.mul_one]
theorem attOf_part : ∀ (Ms Ls : List Lay), (∀ L ∈ Ls, L.ok = true) → (∀ L ∈ Ms, L.ok = true) → 1 ≤ attOf Ms ∧ attOf Ms ≤ attOf (Ms ++ Ls)
  | Ms, [], _, h => by
    rw [List.append_nil]
    refine ⟨?_, Int.le_refl _⟩
    have := flatL_len _ Ms rfl h
    omega
  | Ms, L :: Ls, h0, h => by
    have h1 := attOf_part (Ms ++ [L]) Ls (fun M hM => h0 M (List.mem_cons_of_mem _ hM)) (fun M hM => by
      rcases List.mem_append.mp hM with z | z
      · exact h M z
      · rw [List.mem_singleton.mp z]
        exact h0 L List.mem_cons_self)
    rw [List.append_assoc] at h1
    have h2 := LayAt.con_pos (h0 L List.mem_cons_self)
    have h3 := flatL_len _ Ms rfl h
    rw [attOf_snoc] at h1
    have h4 : attOf Ms * 1 ≤ attOf Ms * L.cnt := Int.mul_le_mul_of_nonneg_left h2 (by omega)
    refine ⟨by omega, ?_⟩
    have h5 : attOf Ms * L.cnt ≤ attOf (Ms ++ ([L] ++ Ls)) := h1.2
    have h6 : Ms ++ L :: Ls = Ms ++ ([L] ++ Ls) := rfl
    rw [h6]
    omega
theorem cnt_le {Ls : List Lay} (h : ∀ L ∈ Ls, L.ok = true) {L : Lay} (hL : L ∈ Ls) : L.cnt ≤ attOf Ls := by
  obtain ⟨As, Bs, rfl⟩ := List.append_of_mem hL
  have h1 := attOf_part As [] (fun _ z => nomatch z) (fun M hM => h M (List.mem_append_left _ hM))
  have h2 := attOf_part (As ++ [L]) Bs (fun M hM => h M (List.mem_append_right _ (List.mem_cons_of_mem _ hM))) (fun M hM => by
    rcases List.mem_append.mp hM with z | z
    · exact h M (List.mem_append_left _ z)
    · rw [List.mem_singleton.mp z]
      exact h L hL)
  have h3 := LayAt.con_pos (h L hL)
  rw [attOf_snoc, List.append_assoc] at h2
  have h4 : 1 * L.cnt ≤ attOf As * L.cnt := Int.mul_le_mul_of_nonneg_right h1.1 (by omega)
  have h5 : attOf As * L.cnt ≤ attOf (As ++ ([L] ++ Bs)) := h2.2
  have h6 : As ++ L :: Bs = As ++ ([L] ++ Bs) := rfl
  rw [h6]
  omega
theorem attOf_pos {Ls : List Lay} (h : ∀ L ∈ Ls, L.ok = true) : 1 ≤ attOf Ls := (attOf_part Ls [] (fun _ z => nomatch z) h).1
theorem part_left {t c left most : Int} (ht : 1 ≤ t) (hc : 1 ≤ c) (hl : c ≤ left) (h : t * left ≤ most) : 1 ≤ left / c ∧ t * c * (left / c) ≤ most := by
  refine ⟨by rw [Int.le_ediv_iff_mul_le (by omega)]; omega, ?_⟩
  have h1 : c * (left / c) ≤ left := by
    have := Int.mul_ediv_add_emod left c
    have := Int.emod_nonneg left (show c ≠ 0 by omega)
    omega
  rw [Int.mul_assoc]
  exact Int.le_trans (Int.mul_le_mul_of_nonneg_left h1 (by omega)) h
theorem le_left {t left most : Int} (ht : 1 ≤ t) (hl : 1 ≤ left) (h : t * left ≤ most) : t ≤ most := by
  have : t * 1 ≤ t * left := Int.mul_le_mul_of_nonneg_left hl (by omega)
  omega
theorem rep_flat {α : Type} (x : α) : ∀ m : Nat, (List.replicate m [x]).flatten = List.replicate m x
  | 0 => rfl
  | m + 1 => by
    rw [List.replicate_succ, List.flatten_cons, rep_flat x m, List.replicate_succ]
    rfl
def Lay.dat : Lay → PyData
  | .pol ns => dInts ns
  | .con w n => .tuple [.int w, .int n]
theorem dp_lay {K : PySem.W.Frag} {G : Hp} {v : V} {L : Lay} (h : LayAt G v L) : Dp K G v L.dat := by
  cases L with
  | pol ns => obtain ⟨p, rfl, hp⟩ := h; exact dp_ints (sql hp)
  | con w n => obtain ⟨p, rfl, hp⟩ := h; exact .tup (sqt hp) (.cons (.int w) (.cons (.int n) .nil))
theorem dp_lays {K : PySem.W.Frag} {G : Hp} : ∀ (vs : List V) (Ls : List Lay), vs.length = Ls.length → (∀ (i : Nat) v L, vs[i]? = some v → Ls[i]? = some L → LayAt G v L) → DpAll K G vs (Ls.map Lay.dat)
  | [], [], _, _ => .nil
  | [], _ :: _, h, _ => by cases h
  | _ :: _, [], h, _ => by cases h
  | v :: vs, L :: Ls, h, hat => .cons (dp_lay (hat 0 v L rfl rfl)) (dp_lays vs Ls (by simpa using h) fun i u M a b => hat (i + 1) u M a b)
theorem dp_nest {K : PySem.W.Frag} {G : Hp} {p : Addr} {Ls : List Lay} (h : NestAt G p Ls) : Dp K G (.ref p) (.list (Ls.map Lay.dat)) := by
  obtain ⟨vs, h1, h2, h3⟩ := h
  exact .lst (sql h1) (dp_lays vs Ls h2 h3)
theorem cut_one (xs : List V) : cutV xs none (some 1) = xs.take 1 := by
  unfold cutV
  rw [HT.sIx_none, show HT.sIx xs.length xs.length (some 1) = min 1 xs.length from HT.sIx_nat xs.length _ 1]
  cases xs with
  | nil => rfl
  | cons x r =>
    rw [show min 1 (x :: r).length = 1 by rw [List.length_cons]; omega]
    rfl
theorem flatL_con {w n : Int} (h0 : 0 ≤ w) (h1 : 1 ≤ n) : flatL [.con w n] = List.replicate (n - 1).toNat w := by
  rw [flatL_fold fun L hL => by rw [List.mem_singleton.mp hL, Lay.ok_con, decide_eq_true h0, decide_eq_true h1]; rfl]
  show nestL [] (List.replicate (n - 1).toNat w) = _
  rw [nil_nestL]
end Rn

set_option Elab.async false
set_option linter.all false
set_option maxRecDepth 100000
set_option maxHeartbeats 4000000
namespace Rn
open PySem PySem.Spec PyProof.Rows L2
/-! ## repr of data; a law entered where no list is being shown -/
section
variable {X : Cx} {K : PySem.W.Frag}
def rRepr (K : PySem.W.Frag) : List V → Hp → VK → Prop := fun xs H Q => ∃ (p : Addr) (d : PyData), xs = [.ref p] ∧ Dp K H (.ref p) d ∧ d.showable = true ∧ d.hasDict = false ∧ d.depth ≤ 50 ∧ d.shown.length ≤ sizeLine ∧ Q (.str d.shown) H
theorem call_repr {k : Nat} (hg : X.A.guards = some []) (hr : Room k X.A) : CallR X (.builtin "repr") (rRepr X.K) := by
  intro pins s σ H xs us Q I r h
  obtain ⟨p, d, rfl, hd, hs, hh, hdep, hz, q⟩ := h
  cases r with
  | cons r1 r2 =>
    cases r2
    cases r1
    obtain ⟨as, rd⟩ := Dp.reads I d _ _ hd rfl
    have hu := hr.units
    exact repr_of_reads' rd hs (PyData.noDict_hsm hh) hg (by omega) (fun _ _ e => e) (fun h' u tk hk => ⟨.str d.shown, H, I.kept (t' := tk) hk, ⟨u, rfl⟩, q⟩) hz
end
section
variable {P : Program} {w : World} {K : PySem.W.Frag} {mg : Str → Option Value} {base : Heap}
/-- a promise that is kept wherever nothing is being shown -/
def FnG (P : Program) (w : World) (K : PySem.W.Frag) (mg : Str → Option Value) (base : Heap) (k : Nat) (f : Addr) (fd : FuncData) (ps : List Str) (sp : Sp) : Prop :=
  ∀ (A : Around) (outer : List Env) (s : Shared) (H : Hp) (args : Args) (us : List Value) (vs : List V) (Q : VK) (E : XK), A.guards = some [] → Room k A → Env0 P w K mg base A outer s H →
    BindsTo s fd args (ps.zip us) → Vals vs us → vs.length = ps.length → sp vs H Q E → codeAny (model P w) A (.call (.ref f) args) (CR CX0 outer P w H s Q E) s
theorem okG {x qual : Str} {st : Stmt} {f : Addr} {fd : FuncData} {N ps : List Str} {k : Nat} {sp : Sp} (F : Fun K x qual st f fd) (S : FnScope N ps (defScope st))
    (hbody : ∀ (cdv : Value) (A : Around) (outer : List Env) (s : Shared) (H : Hp) (vs : List V) (Q : VK) (E : XK), A.guards = some [] → Room k (A.deeper (envOfC qual (defScope st) s.heap.objs.size f cdv)) → sp vs H Q E →
      ∃ t, PSs (cxOf CX0 P w K mg base N qual (defScope st) f cdv A outer s H E).nox (defBody st) t ∧ t { nx := fun _ H' => Q .non H', rt := Q } (start N vs) H) :
    FnG P w K mg base (k + 1) f fd ps sp := by
  obtain ⟨oc, od, kV, doc, pm, an, cdv, ct, osl, efd, look, code⟩ := F.ex
  subst efd
  intro A outer s H args us vs Q E guard room e0 bind rel hlen want
  have same : ∀ b o, base.get? b = some o → s.heap.get? b = some o := fun b o z => (e0.bs b o z).1
  refine Att.call_fn (e0.mod.kin.keeps same) (e0.mod.nolimit.keeps same) look code room.depth bind ?_ (fun s1 x1 => ?_) S.co S.gen S.kind
  · rw [List.all_eq_true]
    rintro ⟨n, v⟩ hm
    rcases S.par n (List.of_mem_zip hm).1 with z | z
    · simp [z]
    · simp [z]
  obtain ⟨t, ht, hq⟩ := hbody cdv A outer s H vs Q E guard (room.deeper _) want
  have start0 : Inv (cxOf CX0 P w K mg base N qual (defScope st) f cdv A outer s H E) [] (start N vs) H s1 := inv_start S room.hd e0 hlen rel x1
  refine wpAny_mono (ht.nox.run [] s1 _ H _ start0 hq) (fun flow s2 done => ?_) (fun _ _ z => z)
  cases flow with
  | brk => exact (by obtain ⟨_, _, _, z⟩ := done; exact False.elim z)
  | cont => exact (by obtain ⟨_, _, _, z⟩ := done; exact False.elim z)
  | next =>
    obtain ⟨_, H2, J, z⟩ := done
    exact ⟨.non, H2, J.os, J.bare, J.base, J.hok, rfl, z⟩
  | ret u =>
    obtain ⟨v, _, H2, J, rv, z⟩ := done
    exact ⟨v, H2, J.os, J.bare, J.base, J.hok, rv, z⟩
/-- the heap's view at a law's entry: the script is known to the object, unless it is one of the text's own -/
def seen (K : PySem.W.Frag) (a : Addr) (vs : List Value) (ns : List Int) : Hp := fun b =>
  if b = a ∧ K.lookup a = none then some (.frz { cls := .type "list", data := .seq vs.toArray } (.lst (ns.map V.int))) else none
theorem seen_some {a b : Addr} {vs : List Value} {ns : List Int} {o : HO} (h : seen K a vs ns b = some o) : b = a ∧ K.lookup a = none ∧ o = .frz { cls := .type "list", data := .seq vs.toArray } (.lst (ns.map V.int)) := by
  unfold seen at h
  by_cases z : b = a ∧ K.lookup a = none
  · rw [if_pos z] at h
    exact ⟨z.1, z.2, (Option.some.inj h).symm⟩
  · rw [if_neg z] at h
    cases h
theorem law_at {mb : Str → Option Value} {fa a : Addr} {s1 : Shared} {vs : List Value} {ns : List Int} (hK : K.In s1.heap) (hmg : s1.heap.Ns mainGlobals mg) (hmb : s1.heap.Ns builtinsNs mb)
    (hbo : ∀ x : Str, x ≠ "__name__" → mb x = bootBuiltins x) (lim : s1.heap.NoLimit) (gens : s1.gens = #[]) (here : s1.heap.get? a = some { cls := .type "list", data := .seq vs.toArray }) (nums : IntsAre vs ns) (few : ns.length ≤ 63)
    (run : ∀ (base : Heap) (H : Hp), K.In base → base.Ns mainGlobals mg → Env0 P w K mg base callerA [] s1 H → SqL K H a (ns.map V.int) → codeAny (model P w) callerA (.call (.ref fa) ⟨[.ref a], []⟩) (CR CX0 [] P w H s1 (fun v _ => v = .bl true) E0) s1) :
    codeAny (model P w) callerA (.call (.ref fa) ⟨[.ref a], []⟩) (fun r s' => r = .ok (.ret (.bool true)) ∧ OldK s1.heap s'.heap ∧ s'.os = s1.os ∧ AllBare s'.gens) s1 := by
  have rel := vals_ints nums
  have cnt := nums.length
  have notDict : ∀ {b : Addr} {m : Str → Option Value}, s1.heap.Ns b m → seen K a vs ns b = none := fun {b m} z => by
    obtain ⟨o, es, ep, e, d, _⟩ := z
    cases q : seen K a vs ns b with
    | none => rfl
    | some u =>
      obtain ⟨eb, _, _⟩ := seen_some q
      rw [eb, here] at e
      cases e
      cases d
  have shift : ∀ {b : Addr} {m : Str → Option Value}, s1.heap.Ns b m → (hidT s1.heap (seen K a vs ns)).Ns b m := fun z => by
    have n := notDict z
    obtain ⟨o, es, ep, e, r⟩ := z
    exact ⟨o, es, ep, hidT_get e n, r⟩
  have kin : K.In (hidT s1.heap (seen K a vs ns)) := fun b o e => hidT_get (hK b o e) (by
    cases q : seen K a vs ns b with
    | none => rfl
    | some u =>
      obtain ⟨eb, en, _⟩ := seen_some q
      rw [eb, en] at e
      cases e)
  have hok : HOk P w (seen K a vs ns) s1.heap := fun b o e => by
    obtain ⟨rfl, _, rfl⟩ := seen_some e
    exact ⟨here, size_le (by rw [List.length_map]; omega), vs, _, rel, here⟩
  have env : Env0 P w K mg (hidT s1.heap (seen K a vs ns)) callerA [] s1 (seen K a vs ns) :=
    ⟨rfl, ⟨kin, shift hmg, ⟨mb, shift hmb, hbo⟩, by obtain ⟨mc, z1, z2⟩ := lim; exact ⟨mc, shift z1, z2⟩⟩, fun b o e => of_hidT e, Nat.le_of_eq (hidT_size _ _), trivial, (fun b z => nomatch z), hok, .of_eq gens⟩
  have script : SqL K (seen K a vs ns) a (ns.map V.int) := by
    cases q : K.lookup a with
    | none => exact .inl (.inr ⟨_, if_pos ⟨rfl, q⟩⟩)
    | some o =>
      have e := hK a o q
      rw [here] at e
      cases e
      exact .inr ⟨_, vs.toArray, _, q, rfl, rfl, rfl, by rw [List.size_toArray, cnt]; exact size_le (by omega), by simpa using rel⟩
  refine codeAny_mono (run _ _ kin (shift hmg) env script) fun r s' z => ?_
  cases r with
  | error e => exact False.elim z
  | ok flow =>
    cases flow with
    | brk => exact False.elim z
    | cont => exact False.elim z
    | next => exact False.elim z
    | ret u =>
      obtain ⟨v, H', os, bare, un, hok', rv, (rfl : v = .bl true)⟩ := z
      cases (show u = Value.bool true from rv)
      refine ⟨rfl, OldK.of_keep fun b o e => ?_, os, bare⟩
      cases q : seen K a vs ns b with
      | none => exact un.keep b o e q (fun z => nomatch z) (fun z => nomatch z)
      | some y =>
        obtain ⟨_, _, rfl⟩ := seen_some q
        obtain ⟨e2, _⟩ := hok' b _ (un.frzs b _ _ q)
        obtain ⟨e1, _⟩ := hok b _ q
        rw [e] at e1
        cases e1
        exact e2
end
/-- the walk's end for a law that shows lists -/
theorem walk_G {l : PySem.W.OpenLaw} {k : Nat} {q : Program} {loose : List Str} {XP : (Str → Option Value) → Heap → Prop} {YP : World → Heap → Prop} {d : DefRec} {K : Params → PySem.W.Frag} {sp : PySem.W.Frag → Sp}
    (hn : l.most = some 63) (hdf : d.params.defaults = []) (hr : Room k callerA) (hY : ∀ (w : World) (h : Heap), YP w h → (K w.params).In h)
    (F : ∀ (w : World) (mg : Str → Option Value) (fa : Addr) (h : Heap), (K w.params).In h → h.Ns mainGlobals mg → mg d.name = some (.ref fa) →
      ∃ fd : FuncData, (∀ (s : Shared) (u : Value), BindsTo s fd ⟨[u], []⟩ [("script", u)]) ∧ ∀ base : Heap, (K w.params).In base → base.Ns mainGlobals mg → FnG l.prog w (K w.params) mg base k fa fd ["script"] (sp (K w.params)))
    (hsp : ∀ (K : PySem.W.Frag) (H : Hp) (a : Addr) (ns : List Int), ns.length ≤ 63 → SqL K H a (ns.map V.int) → sp K [.ref a] H (fun v _ => v = .bl true) E0) :
    PySem.W.WalkO q loose XP YP l.row.toRowW d [] (fun f vs => PySem.call f vs) := by
  refine Att.attach_call hn hdf fun w s0 s1 mg mb fa o pm cd doc a vs ns G Y _ _ _ hmg here nums few gens => ?_
  obtain ⟨fd, bind, run⟩ := F w mg fa _ (hY w _ Y) G.T.g hmg
  exact law_at (hY w _ Y) G.T.g G.T.b G.T.builtins G.T.nolimit gens here nums few fun base H kin ns1 env script =>
    run base kin ns1 callerA [] s1 H _ [.ref a] [.ref a] _ _ rfl hr env (bind s1 (.ref a)) (.cons rfl .nil) rfl (hsp _ H a ns few script)
end Rn
namespace Rn
open PySem PySem.Spec PyProof.Rows L2
/-! ## calls by keywords alone -/
def tCallKw (sp : Sp) (gV : List V → List V → List V) (E : XK) (tk : TA) : TE := fun σ H Q => tk σ H fun zs H1 => sp (gV [] zs) H1 Q E
section
variable {X : Cx} {CX : CXT} {k : Nat} {f : Addr} {fd : FuncData} {ps ks : List Str} {sp : Sp} {E : XK} {x : Str} {p pos : Pos} {kws : List Keyword} {tk : TA} {g : List Value → List Value → List Value} {gV : List V → List V → List V}
theorem pe_callKw (F : FnOk X.prog X.w X.K X.mg X.base CX k f fd ps sp) (room : Room k X.A) (hg : Gl X x) (here : X.mg x = some (.ref f)) (keep : PySem.W.keepIn X.K (.ref f) = true) (bind : KBinds X.K fd ps ks g gV) (out : Passes CX X E)
    (hkw : PK X kws tk) (named : (backToKw pos (keywordEach kws X.env)).all (·.1.isSome) = true := by rfl) (order : (backToKw pos (keywordEach kws X.env)).filterMap (·.1) = ks := by rfl)
    (nodebug : (x == ("__debug__" : Str)) = false := by decide) (plain : ((backTo pos (starEach [] X.env)).any (·.1) || (backToKw pos (keywordEach kws X.env)).any (·.1.isNone)) = false := by rfl) :
    PE X (.Call (.Name x p) [] kws pos) (tCallKw sp gV E tk) := by
  constructor
  intro pins s σ H Q I h
  refine wpAny_Call_Name_kw (ld_glob I hg here ?_ nodebug)
  refine PySem.W.callWith_KW0 (h₀ := X.base) I.ok.mod.kin keep named (thn (hkw.run pos pins s σ H _ I h) fun ws s2 z => ?_) plain
  obtain ⟨zs, H2, I2, rz, q2⟩ := z
  rw [order]
  exact ⟨I2.kIn, run_fnk (us := []) (vs := []) F room bind out I2 .nil rz q2⟩
end
def kw1 {α : Type} : List α → List α → List α
  | [], [a] => [a]
  | _, _ => []
def kw2r {α : Type} : List α → List α → List α
  | [], [a, b] => [b, a]
  | _, _ => []
section
variable {K : PySem.W.Frag} {fd : FuncData} {p q : Str}
theorem kb1 (h : ∀ (s : Shared) (a : Value), BindsTo s fd ⟨[], [(p, a)]⟩ [(p, a)]) : KBinds K fd [p] [p] kw1 kw1 := by
  refine ⟨fun s us ws _ hl => ?_, fun {vs us zs ws} r1 r2 => ?_⟩
  · match us, ws, hl with
    | [], [a], _ => exact h s a
  · cases r1 with
    | cons _ _ => exact .nil
    | nil =>
      cases r2 with
      | nil => exact .nil
      | cons a r =>
        cases r with
        | nil => exact .cons a .nil
        | cons _ _ => exact .nil
theorem kb2r (h : ∀ (s : Shared) (a b : Value), BindsTo s fd ⟨[], [(q, a), (p, b)]⟩ [(p, b), (q, a)]) : KBinds K fd [p, q] [q, p] kw2r kw2r := by
  refine ⟨fun s us ws _ hl => ?_, fun {vs us zs ws} r1 r2 => ?_⟩
  · match us, ws, hl with
    | [], [a, b], _ => exact h s a b
  · cases r1 with
    | cons _ _ => exact .nil
    | nil =>
      cases r2 with
      | nil => exact .nil
      | cons a r =>
        cases r with
        | nil => exact .nil
        | cons b r =>
          cases r with
          | nil => exact .cons b (.cons a .nil)
          | cons _ _ => exact .nil
end
/-! ## data that can be shown -/
structure Shw (d : PyData) (W D : Nat) : Prop where
  show1 : d.showable = true
  plain : d.hasDict = false
  short : d.leavesShort 25 = true
  heavy : d.weight ≤ W
  deep : d.depth ≤ D
theorem Shw.fits {d : PyData} {W D : Nat} (s : Shw d W D) (h : W ≤ 500000) : d.shown.length ≤ sizeLine := by
  have h1 := PyData.shown_le 25 (by decide) d s.short
  have h2 := s.heavy
  have h3 : (25 + 2) * d.weight ≤ 27 * 500000 := Nat.mul_le_mul (by decide) (by omega)
  rw [sizeLine_eq]
  omega
theorem log_lt {i : Int} (h : i.natAbs < 10 ^ 24) : i.natAbs.log2 < 80 := PySem.Flt.log2_lt_of (k := 80) (by decide) (Nat.lt_trans h (by decide))
theorem Shw.int {i : Int} (h : i.natAbs < 10 ^ 24) : Shw (.int i) 80 1 := by
  have h1 := log_lt h
  refine ⟨?_, rfl, ?_, ?_, ?_⟩
  · simp only [PyData.showable, decide_eq_true_eq]
    omega
  · simp only [PyData.leavesShort, decide_eq_true_eq]
    have e := int_text_length_le10 (k := 24) (by decide) h
    show (Str.ofString (toString i)).length ≤ 25
    rw [PySem.ofString_length]
    exact e
  · simp only [PyData.weight]
    split
    · omega
    · omega
  · simp only [PyData.depth]
    omega
theorem Shw.all {W D : Nat} : ∀ ds : List PyData, (∀ d ∈ ds, Shw d W D) → PyData.showableAll ds = true ∧ PyData.hasDictAll ds = false ∧ PyData.leavesShortAll 25 ds = true ∧ PyData.weightAll ds ≤ ds.length * (W + 1) ∧ PyData.depthAll ds ≤ D
  | [], _ => ⟨rfl, rfl, rfl, Nat.zero_le _, Nat.zero_le _⟩
  | d :: ds, h => by
    obtain ⟨a1, a2, a3, a4, a5⟩ := Shw.all ds fun e he => h e (List.mem_cons_of_mem _ he)
    obtain ⟨b1, b2, b3, b4, b5⟩ := h d List.mem_cons_self
    refine ⟨?_, ?_, ?_, ?_, ?_⟩
    · simp only [PyData.showableAll, b1, a1, Bool.and_self]
    · simp only [PyData.hasDictAll, b2, a2, Bool.or_self]
    · simp only [PyData.leavesShortAll, b3, a3, Bool.and_self]
    · simp only [PyData.weightAll, List.length_cons, Nat.succ_mul]
      omega
    · simp only [PyData.depthAll]
      omega
theorem Shw.list {W D : Nat} {ds : List PyData} (h : ∀ d ∈ ds, Shw d W D) : Shw (.list ds) (ds.length * (W + 1)) (D + 1) := by
  obtain ⟨a1, a2, a3, a4, a5⟩ := Shw.all ds h
  exact ⟨by simpa only [PyData.showable] using a1, by simpa only [PyData.hasDict] using a2, by simpa only [PyData.leavesShort] using a3, by simpa only [PyData.weight] using a4, by simp only [PyData.depth]; omega⟩
theorem Shw.tuple {W D : Nat} {ds : List PyData} (h : ∀ d ∈ ds, Shw d W D) : Shw (.tuple ds) (ds.length * (W + 1)) (D + 1) := by
  obtain ⟨a1, a2, a3, a4, a5⟩ := Shw.all ds h
  exact ⟨by simpa only [PyData.showable] using a1, by simpa only [PyData.hasDict] using a2, by simpa only [PyData.leavesShort] using a3, by simpa only [PyData.weight] using a4, by simp only [PyData.depth]; omega⟩
theorem Shw.mono {d : PyData} {W W' D D' : Nat} (s : Shw d W D) (h : W ≤ W') (h' : D ≤ D') : Shw d W' D' := ⟨s.1, s.2, s.3, Nat.le_trans s.4 h, Nat.le_trans s.5 h'⟩
theorem Shw.nums {ns : List Int} (h : ∀ x ∈ ns, x.natAbs < 10 ^ 24) : Shw (dInts ns) (ns.length * 81) 2 := by
  have := Shw.list (ds := ns.map .int) (W := 80) (D := 1) fun d hd => by
    obtain ⟨x, hx, rfl⟩ := List.mem_map.mp hd
    exact Shw.int (h x hx)
  rw [List.length_map] at this
  exact this
theorem Shw.two {d e : PyData} {W D : Nat} (h1 : Shw d W D) (h2 : Shw e W D) : Shw (.list [d, e]) (2 * (W + 1)) (D + 1) :=
  Shw.list (ds := [d, e]) fun x hx => by
    simp only [List.mem_cons, List.not_mem_nil, or_false] at hx
    rcases hx with rfl | rfl
    · exact h1
    · exact h2
theorem ne_str {x y : Str} {A B : Prop} (h : x = y) (b : B) : if (!decide (V.str x = V.str y)) = true then A else B := by
  rw [h, decide_eq_true rfl]
  exact iteF b
theorem Shw.lay {L : Lay} (h : L.nice) : Shw L.dat 4860 2 := by
  obtain ⟨h0, h1⟩ := h
  cases L with
  | pol ns =>
    obtain ⟨h1, h2⟩ := h1
    exact (Shw.nums fun x hx => by have := h2 x hx; omega).mono (by omega) (Nat.le_refl _)
  | con w n =>
    obtain ⟨h1, h2⟩ := h1
    have h3 := LayAt.con_pos h0
    have h3 : 1 ≤ n := h3
    rw [Lay.ok_con, Bool.and_eq_true] at h0
    have h4 := of_decide_eq_true h0.1
    refine (Shw.tuple (ds := [.int w, .int n]) (W := 80) (D := 1) fun d hd => ?_).mono (by show 2 * 81 ≤ 4860; decide) (Nat.le_refl _)
    simp only [List.mem_cons, List.not_mem_nil, or_false] at hd
    rcases hd with rfl | rfl
    · exact Shw.int (by omega)
    · exact Shw.int (by omega)
theorem Shw.nest {Ls : List Lay} {m : Nat} (h : ∀ L ∈ Ls, L.nice) (hl : Ls.length ≤ m) : Shw (.list (Ls.map Lay.dat)) (m * 4861) 3 := by
  refine (Shw.list (ds := Ls.map Lay.dat) (W := 4860) (D := 2) fun d hd => ?_).mono (by rw [List.length_map]; exact Nat.mul_le_mul_right _ hl) (Nat.le_refl _)
  obtain ⟨L, hL, rfl⟩ := List.mem_map.mp hd
  exact Shw.lay (h L hL)
end Rn


namespace Rn
open PySem PySem.Spec PyProof.Rows L2
/-! ## the text -/
def topS (i : Nat) : Stmt := PySem.Challenge.pw_retrynest_k03_numbers_of_attempts.main.body.getD i (.Pass ⟨0, 0, 0, 0⟩)
abbrev s_first_negative : Stmt := topS 4
abbrev s_is_valid_layer : Stmt := topS 5
abbrev s_check_nesting : Stmt := topS 6
abbrev s_layer_attempts : Stmt := topS 8
abbrev s_attempts : Stmt := topS 9
abbrev s_law_source : Stmt := topS 11
abbrev s_law_draw : Stmt := topS 12
abbrev s_law_same : Stmt := topS 13
abbrev s_law_wait_drawn : Stmt := topS 14
abbrev s_law_policy : Stmt := topS 15
abbrev s_law_wait_at : Stmt := topS 16
abbrev s_law_total : Stmt := topS 17
abbrev s_law_flat : Stmt := topS 18
abbrev s_law_any_layer : Stmt := topS 19
abbrev s_law : Stmt := topS 20
theorem sc_first_negative : FnScope ["waits", "index", "wait"] ["waits"] (defScope s_first_negative) := ⟨rfl, rfl, rfl, by decide +kernel, rfl, by decide +kernel, by decide +kernel⟩
theorem sc_is_valid_layer : FnScope ["layer", "wait", "count"] ["layer"] (defScope s_is_valid_layer) := ⟨rfl, rfl, rfl, by decide +kernel, rfl, by decide +kernel, by decide +kernel⟩
theorem sc_check_nesting : FnScope ["nesting", "index", "layer"] ["nesting"] (defScope s_check_nesting) := ⟨rfl, rfl, rfl, by decide +kernel, rfl, by decide +kernel, by decide +kernel⟩
theorem sc_layer_attempts : FnScope ["layer"] ["layer"] (defScope s_layer_attempts) := ⟨rfl, rfl, rfl, by decide +kernel, rfl, by decide +kernel, by decide +kernel⟩
theorem sc_attempts : FnScope ["nesting", "total", "layer"] ["nesting"] (defScope s_attempts) := ⟨rfl, rfl, rfl, by decide +kernel, rfl, by decide +kernel, by decide +kernel⟩
theorem sc_law_source : FnScope ["script", "mix", "digits", "cell", "size"] ["script"] (defScope s_law_source) := ⟨rfl, rfl, rfl, by decide +kernel, rfl, by decide +kernel, by decide +kernel⟩
theorem sc_law_draw : FnScope ["source", "many", "drawn", "mixed"] ["source", "many"] (defScope s_law_draw) := ⟨rfl, rfl, rfl, by decide +kernel, rfl, by decide +kernel, by decide +kernel⟩
theorem sc_law_same : FnScope ["found", "wanted", "k"] ["found", "wanted"] (defScope s_law_same) := ⟨rfl, rfl, rfl, by decide +kernel, rfl, by decide +kernel, by decide +kernel⟩
theorem sc_law_wait_drawn : FnScope ["source", "some"] ["source"] (defScope s_law_wait_drawn) := ⟨rfl, rfl, rfl, by decide +kernel, rfl, by decide +kernel, by decide +kernel⟩
theorem sc_law_policy : FnScope ["source", "most", "kinds", "found", "k"] ["source", "most"] (defScope s_law_policy) := ⟨rfl, rfl, rfl, by decide +kernel, rfl, by decide +kernel, by decide +kernel⟩
theorem sc_law_wait_at : FnScope ["layers", "index", "left", "layer", "size"] ["layers", "index"] (defScope s_law_wait_at) := ⟨rfl, rfl, rfl, by decide +kernel, rfl, by decide +kernel, by decide +kernel⟩
theorem sc_law_total : FnScope ["layers", "found", "layer"] ["layers"] (defScope s_law_total) := ⟨rfl, rfl, rfl, by decide +kernel, rfl, by decide +kernel, by decide +kernel⟩
theorem sc_law_flat : FnScope ["layers", "index"] ["layers"] (defScope s_law_flat) := ⟨rfl, rfl, rfl, by decide +kernel, rfl, by decide +kernel, by decide +kernel⟩
theorem sc_law_any_layer : FnScope ["source", "size"] ["source"] (defScope s_law_any_layer) := ⟨rfl, rfl, rfl, by decide +kernel, rfl, by decide +kernel, by decide +kernel⟩
theorem sc_law : FnScope ["script", "source", "k", "turn", "layers", "time", "saved", "due", "one"] ["script"] (defScope s_law) := ⟨rfl, rfl, rfl, by decide +kernel, rfl, by decide +kernel, by decide +kernel⟩
/-! ## what the top has written -/
structure Txt (K : PySem.W.Frag) (mg : Str → Option Value) where
  f_first_negative : Addr
  d_first_negative : FuncData
  F_first_negative : Fun K "first_negative" "first_negative" s_first_negative f_first_negative d_first_negative
  g_first_negative : mg "first_negative" = some (.ref f_first_negative)
  b_first_negative : Binds K d_first_negative ["waits"] []
  f_is_valid_layer : Addr
  d_is_valid_layer : FuncData
  F_is_valid_layer : Fun K "is_valid_layer" "is_valid_layer" s_is_valid_layer f_is_valid_layer d_is_valid_layer
  g_is_valid_layer : mg "is_valid_layer" = some (.ref f_is_valid_layer)
  b_is_valid_layer : Binds K d_is_valid_layer ["layer"] []
  f_check_nesting : Addr
  d_check_nesting : FuncData
  F_check_nesting : Fun K "check_nesting" "check_nesting" s_check_nesting f_check_nesting d_check_nesting
  g_check_nesting : mg "check_nesting" = some (.ref f_check_nesting)
  b_check_nesting : Binds K d_check_nesting ["nesting"] []
  f_layer_attempts : Addr
  d_layer_attempts : FuncData
  F_layer_attempts : Fun K "layer_attempts" "layer_attempts" s_layer_attempts f_layer_attempts d_layer_attempts
  g_layer_attempts : mg "layer_attempts" = some (.ref f_layer_attempts)
  b_layer_attempts : Binds K d_layer_attempts ["layer"] []
  f_attempts : Addr
  d_attempts : FuncData
  F_attempts : Fun K "attempts" "attempts" s_attempts f_attempts d_attempts
  g_attempts : mg "attempts" = some (.ref f_attempts)
  b_attempts : Binds K d_attempts ["nesting"] []
  f_law_source : Addr
  d_law_source : FuncData
  F_law_source : Fun K "_law_source" "_law_source" s_law_source f_law_source d_law_source
  g_law_source : mg "_law_source" = some (.ref f_law_source)
  b_law_source : Binds K d_law_source ["script"] []
  f_law_draw : Addr
  d_law_draw : FuncData
  F_law_draw : Fun K "_law_draw" "_law_draw" s_law_draw f_law_draw d_law_draw
  g_law_draw : mg "_law_draw" = some (.ref f_law_draw)
  b_law_draw : Binds K d_law_draw ["source", "many"] []
  f_law_same : Addr
  d_law_same : FuncData
  F_law_same : Fun K "_law_same" "_law_same" s_law_same f_law_same d_law_same
  g_law_same : mg "_law_same" = some (.ref f_law_same)
  b_law_same : Binds K d_law_same ["found", "wanted"] []
  f_law_wait_drawn : Addr
  d_law_wait_drawn : FuncData
  F_law_wait_drawn : Fun K "_law_wait_drawn" "_law_wait_drawn" s_law_wait_drawn f_law_wait_drawn d_law_wait_drawn
  g_law_wait_drawn : mg "_law_wait_drawn" = some (.ref f_law_wait_drawn)
  b_law_wait_drawn : Binds K d_law_wait_drawn ["source"] []
  f_law_policy : Addr
  d_law_policy : FuncData
  F_law_policy : Fun K "_law_policy" "_law_policy" s_law_policy f_law_policy d_law_policy
  g_law_policy : mg "_law_policy" = some (.ref f_law_policy)
  b_law_policy : Binds K d_law_policy ["source", "most"] []
  f_law_wait_at : Addr
  d_law_wait_at : FuncData
  F_law_wait_at : Fun K "_law_wait_at" "_law_wait_at" s_law_wait_at f_law_wait_at d_law_wait_at
  g_law_wait_at : mg "_law_wait_at" = some (.ref f_law_wait_at)
  b_law_wait_at : Binds K d_law_wait_at ["layers", "index"] []
  f_law_total : Addr
  d_law_total : FuncData
  F_law_total : Fun K "_law_total" "_law_total" s_law_total f_law_total d_law_total
  g_law_total : mg "_law_total" = some (.ref f_law_total)
  b_law_total : Binds K d_law_total ["layers"] []
  f_law_flat : Addr
  d_law_flat : FuncData
  F_law_flat : Fun K "_law_flat" "_law_flat" s_law_flat f_law_flat d_law_flat
  g_law_flat : mg "_law_flat" = some (.ref f_law_flat)
  b_law_flat : Binds K d_law_flat ["layers"] []
  f_law_any_layer : Addr
  d_law_any_layer : FuncData
  F_law_any_layer : Fun K "_law_any_layer" "_law_any_layer" s_law_any_layer f_law_any_layer d_law_any_layer
  g_law_any_layer : mg "_law_any_layer" = some (.ref f_law_any_layer)
  b_law_any_layer : Binds K d_law_any_layer ["source"] []
  f_law : Addr
  d_law : FuncData
  F_law : Fun K "law" "law" s_law f_law d_law
  g_law : mg "law" = some (.ref f_law)
  b_law : Binds K d_law ["script"] []
  kb_attempts : KBinds K d_attempts ["nesting"] ["nesting"] kw1 kw1
  m_bool : mg "bool" = none
  m_enumerate : mg "enumerate" = none
  m_int : mg "int" = none
  m_isinstance : mg "isinstance" = none
  m_len : mg "len" = none
  m_list : mg "list" = none
  m_max : mg "max" = none
  m_min : mg "min" = none
  m_range : mg "range" = none
  m_repr : mg "repr" = none
  m_str : mg "str" = none
  m_tuple : mg "tuple" = none
end Rn
namespace Rn
open PySem PySem.Spec PyProof.Rows L2
section
variable {P : Program} {w : World} {K : PySem.W.Frag} {mg : Str → Option Value} {base : Heap}
/-- where the first negative one stands -/
def negAt (ns : List Int) : V := match ns.findIdx? (fun x => decide (x < 0)) with
  | none => .non
  | some i => .int (i : Nat)
theorem negAt_none {ns : List Int} (h : ∀ x ∈ ns, 0 ≤ x) : negAt ns = .non := by
  unfold negAt
  rw [List.findIdx?_eq_none_iff.mpr fun x hx => decide_eq_false (by have := h x hx; omega)]
def sp_first_negative (K : PySem.W.Frag) : Sp := fun vs H Q _ => ∃ (a : Addr) (ns : List Int), vs = [.ref a] ∧ SqL K H a (ns.map V.int) ∧ ∀ H', Same H H' → Q (negAt ns) H'
theorem ok_first_negative (T : Txt K mg) : FnOk P w K mg base CX0 1 T.f_first_negative T.d_first_negative ["waits"] (sp_first_negative K) := by
  refine T.F_first_negative.ok sc_first_negative (fun vs H Q E h => ?_) (fun cdv A outer s H vs Q E hr h => ?_)
  · obtain ⟨a, ns, rfl, _⟩ := h
    rfl
  obtain ⟨a, ns, rfl, hS, q⟩ := h
  refine ⟨_, (pss_cons (ps_for PassesOwn.never rfl (pi_enum (by rfl) T.m_enumerate (pa_cons (pv 0) pa_nil)) (pg_tup rfl (pgs_cons (pg_name (i := 1) sc_first_negative.nd rfl (Or.inl rfl)) (pgs_cons (pg_name (i := 2) sc_first_negative.nd rfl (Or.inl rfl)) pgs_nil)))
      (pss_one (ps_if (pt_cmpR op_lt (pv 2) pe_int (nomark _))
      (pss_one (ps_ret (pv 1)))
      pss_nil)))
      (pss_one (ps_ret pe_non))), ?_⟩
  -- the walk
  refine ⟨.ref a, rfl, a, ns.map V.int, rfl, hS, for_enum (fun i σ H' => (∃ y1 y2, σ = [some (.ref a), y1, y2]) ∧ Same H H' ∧ ∀ j : Nat, j < i → ∀ x, ns[j]? = some x → 0 ≤ x)
    ⟨⟨none, none, rfl⟩, Same.refl H, fun j hj => absurd hj (Nat.not_lt_zero j)⟩ (fun i σ H' _ h => h.2.1.seq hS) (fun i x σ H' t hx h nt => ?_) (fun σ H' h => ?_)⟩
  · obtain ⟨⟨y1, y2, rfl⟩, sm, hn⟩ := h
    obtain ⟨n, hx', rfl⟩ : ∃ n, ns[i]? = some n ∧ x = .int n := by
      rw [List.getElem?_map] at hx
      cases e : ns[i]? with
      | none => rw [e] at hx; cases hx
      | some n => rw [e] at hx; exact ⟨n, rfl, (Option.some.inj hx).symm⟩
    refine ⟨t, _, rfl, sqt upd_same, rfl, _, _, rfl, _, _, rfl, rfl, ?_⟩
    -- if wait < 0
    refine ⟨_, rfl, _, _, rfl, rfl, _, rfl, ite2 (fun e => ?_) (fun e => ?_)⟩
    · have e' : n < 0 := of_decide_eq_true e
      refine ⟨_, rfl, ?_⟩
      have hf : negAt ns = .int (i : Nat) := by
        unfold negAt
        have hi : i < ns.length := (List.getElem?_eq_some_iff.mp hx').1
        have : ns.findIdx? (fun x => decide (x < 0)) = some i := by
          rw [List.findIdx?_eq_some_iff_getElem]
          refine ⟨hi, ?_, fun j hj => ?_⟩
          · rw [(List.getElem?_eq_some_iff.mp hx').2]
            exact decide_eq_true e'
          · have hjl : j < ns.length := by omega
            have := hn j hj _ (List.getElem?_eq_getElem hjl)
            simp only [decide_eq_true_eq]
            omega
        rw [this]
      have := q (upd H' t (.tup [.int (i : Nat), .int n])) (sm.trans (same_new nt))
      rw [hf] at this
      exact this
    · refine ⟨⟨_, _, rfl⟩, sm.trans (same_new nt), fun j hj x hz => ?_⟩
      by_cases ej : j = i
      · subst ej
        rw [hx'] at hz
        cases hz
        have := of_decide_eq_false (Bool.eq_false_iff.mpr e)
        omega
      · exact hn j (by omega) x hz
  · obtain ⟨⟨y1, y2, rfl⟩, sm, hn⟩ := h
    have e : negAt ns = .non := negAt_none fun x hx => by
      obtain ⟨j, hj, e⟩ := List.getElem_of_mem hx
      exact hn j (by simpa using hj) x (by rw [← e]; exact List.getElem?_eq_getElem hj)
    have := q H' sm
    rw [e] at this
    exact this

end
end Rn
namespace Rn
open PySem PySem.Spec PyProof.Rows L2
section
variable {P : Program} {w : World} {K : PySem.W.Frag} {mg : Str → Option Value} {base : Heap}
def sp_is_valid_layer (K : PySem.W.Frag) : Sp := fun vs H Q _ => ∃ (v : V) (L : Lay), vs = [v] ∧ LayAt H v L ∧ ∀ H', Same H H' → Q (.bl L.ok) H'
theorem negAt_iff (ns : List Int) : decide (negAt ns = .non) = ns.all fun x => decide (0 ≤ x) := by
  by_cases h : ∀ x ∈ ns, 0 ≤ x
  · rw [negAt_none h, decide_eq_true rfl]
    symm
    rw [List.all_eq_true]
    exact fun x hx => decide_eq_true (h x hx)
  · have e : ns.all (fun x => decide (0 ≤ x)) = false := by
      rw [Bool.eq_false_iff]
      intro z
      rw [List.all_eq_true] at z
      exact h fun x hx => of_decide_eq_true (z x hx)
    rw [e]
    unfold negAt
    cases q : ns.findIdx? (fun x => decide (x < 0)) with
    | none =>
      rw [List.findIdx?_eq_none_iff] at q
      exact absurd (fun x hx => by have := of_decide_eq_false (q x hx); omega) h
    | some i => exact decide_eq_false fun z => nomatch z
theorem ok_is_valid_layer (T : Txt K mg) : FnOk P w K mg base CX0 2 T.f_is_valid_layer T.d_is_valid_layer ["layer"] (sp_is_valid_layer K) := by
  have G_first_negative := ok_first_negative (P := P) (w := w) (base := base) T
  refine T.F_is_valid_layer.ok sc_is_valid_layer (fun vs H Q E h => ?_) (fun cdv A outer s H vs Q E hr h => ?_)
  · obtain ⟨v, L, rfl, _⟩ := h
    rfl
  obtain ⟨v, L, rfl, hL, q⟩ := h
  refine ⟨_, (pss_cons (ps_if (pt_val (pe_callB call_isi (by rfl) T.m_isinstance (by decide +kernel) (pa_cons (pv 0) (pa_cons (pe_bltn (v := .ty "tuple") (by rfl) T.m_tuple (by decide +kernel) rfl) pa_nil))))
      (pss_cons (ps_asg (pv 0) (pg_tup rfl (pgs_cons (pg_name (i := 1) sc_is_valid_layer.nd rfl (Or.inl rfl)) (pgs_cons (pg_name (i := 2) sc_is_valid_layer.nd rfl (Or.inl rfl)) pgs_nil))))
      (pss_one (ps_ret (pe_and (pe_cmpR op_ge (pv 1) pe_int (nomark _)) (pe_one (pe_cmpR op_ge (pv 2) pe_int (nomark _)))))))
      pss_nil)
      (pss_one (ps_ret (pe_cmpR op_isN (pe_call G_first_negative hr (by rfl) T.g_first_negative T.F_first_negative.kp T.b_first_negative .nil pass0 (pa_cons (pv 0) pa_nil)) pe_non (nomark _))))), ?_⟩
  cases L with
  | con wt n =>
    obtain ⟨p, rfl, hp⟩ := hL
    refine ⟨_, rfl, _, _, _, _, true, rfl, .ty "tuple", .base (.tup hp), kit_ty (by decide +kernel), true, rfl, iteT ?_⟩
    refine ⟨_, rfl, p, _, rfl, sqt hp, rfl, _, _, rfl, _, _, rfl, rfl, ?_⟩
    refine ⟨_, rfl, _, _, rfl, rfl, _, rfl, ite2 (fun e => ?_) (fun e => ?_)⟩
    · refine ⟨_, rfl, _, _, rfl, rfl, ?_⟩
      have := q H (Same.refl H)
      rw [Lay.ok_con, e, Bool.true_and] at this
      exact this
    · have := q H (Same.refl H)
      rw [Lay.ok_con, Bool.eq_false_iff.mpr e, Bool.false_and] at this
      exact this
  | pol ns =>
    obtain ⟨p, rfl, hp⟩ := hL
    refine ⟨_, rfl, _, _, _, _, false, rfl, .ty "tuple", .base (.lst hp), kit_ty (by decide +kernel), false, rfl, iteF ?_⟩
    refine ⟨_, rfl, p, ns, rfl, sql hp, fun H' sm => ⟨rfl, ?_⟩⟩
    have := q H' sm
    rw [Lay.ok_pol, ← negAt_iff] at this
    exact this

end
end Rn
namespace Rn
open PySem PySem.Spec PyProof.Rows L2
section
variable {P : Program} {w : World} {K : PySem.W.Frag} {mg : Str → Option Value} {base : Heap}
def sp_check_nesting (K : PySem.W.Frag) : Sp := fun vs H Q _ => ∃ (a : Addr) (Ls : List Lay), vs = [.ref a] ∧ NestAt H a Ls ∧ (∀ L ∈ Ls, L.ok = true) ∧ ∀ H', Same H H' → Q .non H'
theorem ok_check_nesting (T : Txt K mg) : FnOk P w K mg base CX0 3 T.f_check_nesting T.d_check_nesting ["nesting"] (sp_check_nesting K) := by
  have G_is_valid_layer := ok_is_valid_layer (P := P) (w := w) (base := base) T
  refine T.F_check_nesting.ok sc_check_nesting (fun vs H Q E h => ?_) (fun cdv A outer s H vs Q E hr h => ?_)
  · obtain ⟨a, Ls, rfl, _⟩ := h
    rfl
  obtain ⟨a, Ls, rfl, hN, hok, q⟩ := h
  refine ⟨_, (pss_one (ps_for PassesOwn.never rfl (pi_enum (by rfl) T.m_enumerate (pa_cons (pv 0) pa_nil)) (pg_tup rfl (pgs_cons (pg_name (i := 1) sc_check_nesting.nd rfl (Or.inl rfl)) (pgs_cons (pg_name (i := 2) sc_check_nesting.nd rfl (Or.inl rfl)) pgs_nil)))
      (pss_one (ps_if (pt_not (pt_val (pe_call G_is_valid_layer hr (by rfl) T.g_is_valid_layer T.F_is_valid_layer.kp T.b_is_valid_layer .nil pass0 (pa_cons (pv 2) pa_nil))))
      (pss_one ps_never)
      pss_nil)))), ?_⟩
  obtain ⟨vs, hv, hl, hat⟩ := id hN
  refine ⟨.ref a, rfl, a, vs, rfl, sql hv, for_enum (fun i σ H' => (∃ y1 y2, σ = [some (.ref a), y1, y2]) ∧ Same H H') ⟨⟨none, none, rfl⟩, Same.refl H⟩ (fun i σ H' _ h => h.2.seq (sql hv)) (fun i x σ H' t hx h nt => ?_) (fun σ H' h => q H' h.2)⟩
  obtain ⟨⟨y1, y2, rfl⟩, sm⟩ := h
  have hi : i < Ls.length := by
    rw [← hl]
    exact (List.getElem?_eq_some_iff.mp hx).1
  have sm1 := sm.trans (same_new (o := .tup [.int (i : Nat), x]) nt)
  refine ⟨t, _, rfl, sqt upd_same, rfl, _, _, rfl, _, _, rfl, rfl, ?_⟩
  refine ⟨_, rfl, x, Ls[i], rfl, (hat i x _ hx (List.getElem?_eq_getElem hi)).same sm1, fun H2 s2 => ?_⟩
  rw [hok _ (List.getElem_mem hi)]
  exact ⟨true, rfl, iteF ⟨⟨_, _, rfl⟩, sm1.trans s2⟩⟩

end
end Rn
namespace Rn
open PySem PySem.Spec PyProof.Rows L2
section
variable {P : Program} {w : World} {K : PySem.W.Frag} {mg : Str → Option Value} {base : Heap}
def sp_layer_attempts (K : PySem.W.Frag) : Sp := fun vs H Q _ => ∃ (v : V) (L : Lay), vs = [v] ∧ LayAt H v L ∧ Q (.int L.cnt) H
theorem ok_layer_attempts (T : Txt K mg) : FnOk P w K mg base CX0 1 T.f_layer_attempts T.d_layer_attempts ["layer"] (sp_layer_attempts K) := by
  refine T.F_layer_attempts.ok sc_layer_attempts (fun vs H Q E h => ?_) (fun cdv A outer s H vs Q E hr h => ?_)
  · obtain ⟨v, L, rfl, _⟩ := h
    rfl
  obtain ⟨v, L, rfl, hL, q⟩ := h
  refine ⟨_, (pss_cons (ps_if (pt_val (pe_callB call_isi (by rfl) T.m_isinstance (by decide +kernel) (pa_cons (pv 0) (pa_cons (pe_bltn (v := .ty "tuple") (by rfl) T.m_tuple (by decide +kernel) rfl) pa_nil))))
      (pss_one (ps_ret (pe_ix ix_tup (pv 0) pe_int (fun _ _ => rfl))))
      pss_nil)
      (pss_one (ps_ret (pe_op op_add (pe_callB call_len_seq (by rfl) T.m_len PySem.boot_len (pa_cons (pv 0) pa_nil)) pe_int)))), ?_⟩
  cases L with
  | con wt n =>
    obtain ⟨p, rfl, hp⟩ := hL
    exact ⟨_, rfl, _, _, _, _, true, rfl, .ty "tuple", .base (.tup hp), kit_ty (by decide +kernel), true, rfl, iteT ⟨_, rfl, p, _, 1, _, rfl, rfl, sqt hp, rfl, q⟩⟩
  | pol ns =>
    obtain ⟨p, rfl, hp⟩ := hL
    refine ⟨_, rfl, _, _, _, _, false, rfl, .ty "tuple", .base (.lst hp), kit_ty (by decide +kernel), false, rfl, iteF ⟨_, rfl, p, _, rfl, .inl (sql hp), _, _, rfl, rfl, ?_⟩⟩
    rw [List.length_map]
    exact q

end
end Rn
namespace Rn
open PySem PySem.Spec PyProof.Rows L2
section
variable {P : Program} {w : World} {K : PySem.W.Frag} {mg : Str → Option Value} {base : Heap}
def sp_attempts (K : PySem.W.Frag) : Sp := fun vs H Q _ => ∃ (a : Addr) (Ls : List Lay), vs = [.ref a] ∧ NestAt H a Ls ∧ (∀ L ∈ Ls, L.ok = true ∧ L.cnt < 2 ^ 100) ∧ Ls.length ≤ 5000 ∧ ∀ H', Same H H' → Q (.int (attOf Ls)) H'
theorem ok_attempts (T : Txt K mg) : FnOk P w K mg base CX0 4 T.f_attempts T.d_attempts ["nesting"] (sp_attempts K) := by
  have G_check_nesting := ok_check_nesting (P := P) (w := w) (base := base) T
  have G_layer_attempts := (ok_layer_attempts (P := P) (w := w) (base := base) T).mono (by decide : 1 ≤ 3)
  refine T.F_attempts.ok sc_attempts (fun vs H Q E h => ?_) (fun cdv A outer s H vs Q E hr h => ?_)
  · obtain ⟨a, Ls, rfl, _⟩ := h
    rfl
  obtain ⟨a, Ls, rfl, hN, hok, hz, q⟩ := h
  refine ⟨_, (pss_cons (ps_expr (pe_call G_check_nesting hr (by rfl) T.g_check_nesting T.F_check_nesting.kp T.b_check_nesting .nil pass0 (pa_cons (pv 0) pa_nil)))
      (pss_cons (ps_set (i := 1) sc_attempts.nd rfl (Or.inl rfl) pe_int)
      (pss_cons (ps_for PassesOwn.never rfl (pi_list (pv 0)) (pg_name (i := 2) sc_attempts.nd rfl (Or.inl rfl))
      (pss_one (ps_set (i := 1) sc_attempts.nd rfl (Or.inl rfl) (pe_op op_mulW (pv 1) (pe_call G_layer_attempts hr (by rfl) T.g_layer_attempts T.F_layer_attempts.kp T.b_layer_attempts .nil pass0 (pa_cons (pv 2) pa_nil))))))
      (pss_one (ps_ret (pv 1)))))), ?_⟩
  refine ⟨_, rfl, a, Ls, rfl, hN, fun L hL => (hok L hL).1, fun H1 s1 => ?_⟩
  obtain ⟨vs, hv, hl, hat⟩ := id (hN.same s1)
  refine ⟨_, rfl, a, rfl, ⟨vs, sql hv⟩, for_list (xs := vs) (fun i σ H' => (∃ y2, σ = [some (.ref a), some (.int (attOf (Ls.take i))), y2]) ∧ H' = H1) ⟨⟨none, rfl⟩, rfl⟩ (fun i σ H' _ h => by rw [h.2]; exact sql hv) (fun i x σ H' hx h => ?_) (fun σ H' h => ?_)⟩
  · obtain ⟨⟨y2, rfl⟩, rfl⟩ := h
    have hi : i < Ls.length := by
      rw [← hl]
      exact (List.getElem?_eq_some_iff.mp hx).1
    have hi' := List.getElem?_eq_getElem hi
    obtain ⟨i1, i2⟩ := attOf_lt i (Ls.take i) (by rw [List.length_take]; omega) fun L hL => hok L (List.mem_of_mem_take hL)
    obtain ⟨h1, h2⟩ := hok _ (List.getElem_mem hi)
    have h3 := LayAt.con_pos h1
    refine ⟨_, rfl, _, rfl, x, Ls[i], rfl, hat i x _ hx hi', _, _, rfl, rfl, wide_mul (b := 100) i2 (by omega) (by omega) (by decide) (by omega), ⟨some x, ?_⟩, rfl⟩
    rw [List.take_add_one, hi', Option.toList_some, attOf_snoc]
    rfl
  · obtain ⟨⟨y2, rfl⟩, rfl⟩ := h
    refine ⟨_, rfl, ?_⟩
    rw [hl, List.take_length]
    exact q _ s1

end
end Rn
namespace Rn
open PySem PySem.Spec PyProof.Rows L2
section
variable {P : Program} {w : World} {K : PySem.W.Frag} {mg : Str → Option Value} {base : Heap}
def sp_law_source (K : PySem.W.Frag) : Sp := fun vs H Q _ => ∃ (a : Addr) (ns : List Int), vs = [.ref a] ∧ SqL K H a (ns.map V.int) ∧ ns.length ≤ 63 ∧
  ∀ H' p d, Same H H' → H p = none → H d = none → Src H' p d 0 → Q (.ref p) H'
theorem ok_law_source (T : Txt K mg) : FnOk P w K mg base CX0 1 T.f_law_source T.d_law_source ["script"] (sp_law_source K) := by
  refine T.F_law_source.ok sc_law_source (fun vs H Q E h => ?_) (fun cdv A outer s H vs Q E hr h => ?_)
  · obtain ⟨a, ns, rfl, _⟩ := h
    rfl
  obtain ⟨a, ns, rfl, hS, hl, q⟩ := h
  refine ⟨_, (pss_cons (ps_set (i := 1) sc_law_source.nd rfl (Or.inl rfl) pe_int)
      (pss_cons (ps_set (i := 2) sc_law_source.nd rfl (Or.inl rfl) (pe_lst pa_nil))
      (pss_cons (ps_for PassesOwn.never rfl (pi_list (pv 0)) (pg_name (i := 3) sc_law_source.nd rfl (Or.inl rfl))
      (pss_cons (ps_set (i := 1) sc_law_source.nd rfl (Or.inl rfl) (pe_op op_mod (pe_op op_add (pe_op op_mul (pv 1) pe_int) (pv 3)) (pe_op op_sub (pe_op op_pow pe_int pe_int) pe_int)))
      (pss_cons (ps_set (i := 4) sc_law_source.nd rfl (Or.inl rfl) (pe_callB (call_max2 rfl) (by rfl) T.m_max (by decide +kernel) (pa_cons (pv 3) (pa_cons (pe_op op_sub pe_int (pv 3)) pa_nil))))
      (pss_one (ps_if (pt_cmpR op_ge (pv 4) (pe_op op_pow pe_int pe_int) (nomark _))
      (pss_one (ps_expr (pe_bm PySem.F.plainAttrs_list PySem.F.slot_list_append PySem.F.type_list_append mt_append (pv 2) (pa_cons (pe_op op_sub (pv 4) (pe_op op_pow pe_int pe_int)) pa_nil))))
      pss_nil)))))
      (pss_one (ps_ret (pe_lst (pa_cons (pv 2) (pa_cons pe_int (pa_cons (pv 1) (pa_cons pe_int pa_nil)))))))))), ?_⟩
  refine ⟨Nat.zero_le _, fun d hd => ?_⟩
  refine ⟨_, rfl, a, rfl, ⟨_, (same_new hd).seq hS⟩, for_list (xs := ns.map V.int) (fun i σ H' => ∃ mix y3 y4 ds, σ = [some (.ref a), some (.int mix), some (.ref d), y3, y4] ∧ 0 ≤ mix ∧ mix < 2305843009213693951 ∧ Same H H' ∧ H' d = some (.lst ((ds : List Int).map V.int)) ∧ ds.length ≤ i)
    ⟨271828182845904, none, none, [], rfl, by decide, by decide, same_new hd, upd_same, Nat.le_refl _⟩ (fun i σ H' _ h => by obtain ⟨_, _, _, _, _, _, _, sm, _⟩ := h; exact sm.seq hS) (fun i x σ H' hx h => ?_) (fun σ H' h => ?_)⟩
  · obtain ⟨mix, y3, y4, ds, rfl, m0, m1, sm, hds, hdl⟩ := h
    have hi : i < 63 := by
      have := (List.getElem?_eq_some_iff.mp hx).1
      rw [List.length_map] at this
      omega
    obtain ⟨n, rfl⟩ : ∃ n, x = .int n := by
      rw [List.getElem?_map] at hx
      cases e : ns[i]? with
      | none => rw [e] at hx; cases hx
      | some n => rw [e] at hx; exact ⟨n, (Option.some.inj hx).symm⟩
    have pm : (0 : Int) < 2 ^ (61 : Int).toNat - 1 := by decide
    have pe : (2 : Int) ^ (61 : Int).toNat - 1 = 2305843009213693951 := by decide
    -- mix = ..
    refine ⟨_, rfl, _, _, rfl, rfl, .inl ⟨by omega, by omega⟩, _, rfl, _, _, rfl, rfl, _, _, rfl, rfl, ⟨by decide, by decide, by decide⟩, _, _, rfl, rfl, _, _, rfl, rfl, pm, ?_⟩
    -- size = max(cell, 0 - cell)
    refine ⟨_, rfl, _, rfl, _, _, rfl, rfl, _, _, rfl, ?_⟩
    have b1 := Int.emod_nonneg (mix * 1000033 + n) (show (2 : Int) ^ (61 : Int).toNat - 1 ≠ 0 by decide)
    have b2 := Int.emod_lt_of_pos (mix * 1000033 + n) pm
    rw [pe] at b2
    -- if size >= 10 ** 18
    refine ⟨_, rfl, _, _, rfl, rfl, ⟨by decide, by decide, by decide⟩, _, _, rfl, rfl, _, rfl, ite2 (fun e => ?_) (fun e => ?_)⟩
    · refine ⟨_, rfl, .inl ⟨rfl, _, sql hds⟩, _, rfl, _, _, rfl, rfl, ⟨by decide, by decide, by decide⟩, _, _, rfl, rfl, d, _, _, rfl, rfl, hds, size_lt (by rw [List.length_map]; omega), ?_⟩
      refine ⟨_, _, _, ds ++ [_], rfl, b1, b2, same_keep sm hd, by rw [upd_same, List.map_append]; rfl, by rw [List.length_append]; exact Nat.succ_le_succ hdl⟩
    · exact ⟨_, _, _, ds, rfl, b1, b2, sm, hds, Nat.le_succ_of_le hdl⟩
  · obtain ⟨mix, y3, y4, ds, rfl, m0, m1, sm, hds, hdl⟩ := h
    refine ⟨_, rfl, _, rfl, size_le (by show 4 ≤ 100000; decide), fun p hp => ?_⟩
    refine q _ p d (sm.trans (same_new hp)) (sm.free hp) hd ⟨0, mix, 0, ds, upd_same, ?_, m0, m1, by decide, by decide⟩
    rw [upd_ne (ne_of_none hds hp)]
    exact hds

end
end Rn
namespace Rn
open PySem PySem.Spec PyProof.Rows L2
section
variable {P : Program} {w : World} {K : PySem.W.Frag} {mg : Str → Option Value} {base : Heap}
def sp_law_draw (K : PySem.W.Frag) : Sp := fun vs H Q _ => ∃ (a d : Addr) (n many : Int), vs = [.ref a, .int many] ∧ Src H a d n ∧ n ≤ 1000000000000000 ∧ 0 < many ∧ many < 2 ^ 100 ∧
  ∀ H' r, Adv a d 1 H H' → 0 ≤ r → r < many → Q (.int r) H'
theorem ok_law_draw (T : Txt K mg) : FnOk P w K mg base CX0 1 T.f_law_draw T.d_law_draw ["source", "many"] (sp_law_draw K) := by
  refine T.F_law_draw.ok sc_law_draw (fun vs H Q E h => ?_) (fun cdv A outer s H vs Q E hr h => ?_)
  · obtain ⟨a, d, n, many, rfl, _⟩ := h
    rfl
  obtain ⟨a, d, n, many, rfl, hS, hn, hm0, hm1, q⟩ := h
  refine ⟨_, (pss_cons (ps_while PassesOwn.never (PW.pt (pw_and (pt_cmpR op_lt (pe_ix ix_list (pv 0) pe_int (fun _ _ => rfl)) pe_int (nomark _)) (pw_and1 (pt_cmpR (op_neD hr.units) (pe_ix ix_list (pv 0) pe_int (fun _ _ => rfl)) (pe_lst pa_nil) (nomark _)))))
      (pss_one (ps_asg (pe_bm PySem.F.plainAttrs_list PySem.F.slot_list_pop PySem.F.type_list_pop mt_popAt (pe_ix ix_list (pv 0) pe_int (fun _ _ => rfl)) (pa_cons pe_int pa_nil)) (pg_sub (pv 0) pe_int set_list))))
      (pss_cons (ps_if (pt_cmpR op_ge (pe_ix ix_list (pv 0) pe_int (fun _ _ => rfl)) pe_int (nomark _))
      (pss_cons (ps_set (i := 2) sc_law_draw.nd rfl (Or.inl rfl) (pe_op op_mod (pe_ix ix_list (pv 0) pe_int (fun _ _ => rfl)) (pv 1)))
      (pss_cons (ps_asg (pe_op op_fdivW (pe_ix ix_list (pv 0) pe_int (fun _ _ => rfl)) (pv 1)) (pg_sub (pv 0) pe_int set_list))
      (pss_one (ps_ret (pv 2)))))
      pss_nil)
      (pss_cons (ps_asg (pe_op op_add (pe_ix ix_list (pv 0) pe_int (fun _ _ => rfl)) pe_int) (pg_sub (pv 0) pe_int set_list))
      (pss_cons (ps_set (i := 3) sc_law_draw.nd rfl (Or.inl rfl) (pe_op op_mul (pe_op op_add (pe_ix ix_list (pv 0) pe_int (fun _ _ => rfl)) pe_int) (pe_op op_pow (pe_op op_add (pe_ix ix_list (pv 0) pe_int (fun _ _ => rfl)) pe_int) pe_int)))
      (pss_cons (ps_set (i := 3) sc_law_draw.nd rfl (Or.inl rfl) (pe_op op_mod (pe_op op_add (pv 3) (pe_op op_mul pe_int (pe_ix ix_list (pv 0) pe_int (fun _ _ => rfl)))) (pe_op op_sub (pe_op op_pow pe_int pe_int) pe_int)))
      (pss_one (ps_ret (pe_op op_mod (pe_op op_fdivW (pe_op op_mod (pe_op op_pow (pv 3) pe_int) (pe_op op_add (pe_op op_pow pe_int pe_int) pe_int)) pe_int) (pv 1))))))))), ?_⟩
  have had := hS.ne
  obtain ⟨cur, mix, cnt, ds, ha, hd, m0, m1, c0, c1⟩ := hS
  have hda := had.symm
  -- the digits' loop
  refine ⟨fun m σ H' => ∃ cu es, σ = [some (.ref a), some (.int many), none, none] ∧ H' a = some (.lst [.ref d, .int cu, .int mix, .int cnt]) ∧ H' d = some (.lst ((es : List Int).map V.int)) ∧ es.length = m ∧ Same (hid a d H) (hid a d H'),
    ⟨ds.length, cur, ds, rfl, ha, hd, rfl, Same.refl _⟩, fun m σ H1 hW => ?_⟩
  obtain ⟨cu, es, rfl, ha1, hd1, hl1, sm1⟩ := hW
  have hp3 : (0 : Int) < 2 ^ (61 : Int).toNat - 1 := by decide
  have hp3e : (2 : Int) ^ (61 : Int).toNat - 1 = 2305843009213693951 := by decide
  have hp4 : (0 : Int) < 10 ^ (18 : Int).toNat + 9 := by decide
  -- source[1] < 2
  refine ⟨_, rfl, a, _, 1, _, rfl, rfl, sql ha1, rfl, _, _, rfl, rfl, _, rfl, ite2 (fun e => ?_) (fun e => ?_)⟩
  · -- source[0] != []
    refine ⟨_, rfl, a, _, 0, _, rfl, rfl, sql ha1, rfl, Nat.zero_le _, fun o ho => ?_⟩
    have no : o ≠ a ∧ o ≠ d := ⟨(ne_of_none ha1 ho).symm, (ne_of_none hd1 ho).symm⟩
    have ha2 : (upd H1 o (.lst [])) a = some (.lst [.ref d, .int cu, .int mix, .int cnt]) := by rw [upd_ne no.1.symm]; exact ha1
    have hd2 : (upd H1 o (.lst [])) d = some (.lst (es.map V.int)) := by rw [upd_ne no.2.symm]; exact hd1
    have sm2 : Same (hid a d H) (hid a d (upd H1 o (.lst []))) := sm1.trans (hid_same (same_new ho))
    refine ⟨dInts es, dInts [], dp_ints (sql hd2), dp_nil (sql upd_same), shaped_ints _, shaped_ints _, _, rfl, ?_⟩
    rw [eqv_ints]
    generalize upd H1 o (.lst []) = H2 at *
    cases es with
    | cons x r =>
      refine iteT ⟨fun σ' H' => ∃ cu, σ' = [some (.ref a), some (.int many), none, none] ∧ H' a = some (.lst [.ref d, .int cu, .int mix, .int cnt]) ∧ H' d = some (.lst (r.map V.int)) ∧ Same (hid a d H) (hid a d H'),
        fun σ' H' hN => ?_, ?_⟩
      · obtain ⟨cu', e1, e2, e3, e4⟩ := hN
        exact ⟨r.length, by rw [← hl1]; exact Nat.lt_succ_self _, cu', r, e1, e2, e3, rfl, e4⟩
      · refine ⟨_, rfl, a, _, 0, _, rfl, rfl, sql ha2, rfl, .inl ⟨rfl, _, sql hd2⟩, d, _, 0, 0, .int x, rfl, rfl, hd2, by decide, by decide, ?_, rfl, ?_⟩
        · unfold seqIndex?
          simp
        refine ⟨_, rfl, a, _, 1, 1, rfl, rfl, by rw [upd_ne had]; exact ha2, rfl, x, rfl, upd_same, ?_, ?_⟩
        · rw [upd_ne hda, upd_same]
          rfl
        · rw [hid_src1, hid_src2]
          exact sm2
    | nil =>
      refine iteF ?_
      -- if source[1] >= 2
      refine ⟨_, rfl, a, _, 1, _, rfl, rfl, sql ha2, rfl, _, _, rfl, rfl, _, rfl, ite2 (fun e2 => ?_) (fun _ => ?_)⟩
      · have x1 := of_decide_eq_true e
        have x2 := of_decide_eq_true e2
        omega
      refine ⟨_, rfl, a, _, 3, _, rfl, rfl, sql ha2, rfl, _, _, rfl, rfl, _, rfl, a, _, 3, 3, rfl, rfl, ha2, rfl, ?_⟩
      have ha3 : (upd H2 a (.lst [.ref d, .int cu, .int mix, .int (cnt + 1)])) a = some (.lst [.ref d, .int cu, .int mix, .int (cnt + 1)]) := upd_same
      have hd3 : (upd H2 a (.lst [.ref d, .int cu, .int mix, .int (cnt + 1)])) d = some (.lst (([] : List Int).map V.int)) := by rw [upd_ne hda]; exact hd2
      have sm3 : Same (hid a d H) (hid a d (upd H2 a (.lst [.ref d, .int cu, .int mix, .int (cnt + 1)]))) := by rw [hid_src1]; exact sm2
      show tSeq _ _ _ _ (upd H2 a (.lst [.ref d, .int cu, .int mix, .int (cnt + 1)]))
      generalize upd H2 a (.lst [.ref d, .int cu, .int mix, .int (cnt + 1)]) = H3 at *
      refine ⟨_, rfl, a, _, 2, _, rfl, rfl, sql ha3, rfl, _, _, rfl, rfl, _, rfl, a, _, 3, _, rfl, rfl, sql ha3, rfl, _, _, rfl, rfl, _, _, rfl, rfl, ⟨by decide, by decide, by omega⟩, _, _, rfl, rfl, .inl ⟨by omega, by omega⟩, ?_⟩
      refine ⟨_, rfl, _, rfl, a, _, 3, _, rfl, rfl, sql ha3, rfl, _, _, rfl, rfl, .inl ⟨by decide, by decide⟩, _, _, rfl, rfl, _, _, rfl, rfl, ⟨by decide, by decide, by decide⟩, _, _, rfl, rfl, _, _, rfl, rfl, hp3, ?_⟩
      have b1 := Int.emod_nonneg ((mix + 7) * (cnt + 1 + 3) ^ (3 : Int).toNat + 1000081 * (cnt + 1)) (show (2 : Int) ^ (61 : Int).toNat - 1 ≠ 0 by decide)
      have b2 := Int.emod_lt_of_pos ((mix + 7) * (cnt + 1 + 3) ^ (3 : Int).toNat + 1000081 * (cnt + 1)) hp3
      refine ⟨_, rfl, _, _, rfl, rfl, ⟨by decide, by decide, small64 b1 b2 (by decide)⟩, _, _, rfl, rfl, ⟨by decide, by decide, by decide⟩, _, _, rfl, rfl, _, _, rfl, rfl, hp4, _, _, rfl, rfl, wide_div (b := 8) (by decide) (by decide) (by decide) (by decide), _, rfl, _, _, rfl, rfl, hm0, ?_⟩
      exact q H3 _ (Adv.made sm3 ha ha3 hd3 (by omega) (by omega)) (Int.emod_nonneg _ (by omega)) (Int.emod_lt_of_pos _ hm0)
  · -- a digit is left
    refine iteF ?_
    refine ⟨_, rfl, a, _, 1, _, rfl, rfl, sql ha1, rfl, _, _, rfl, rfl, _, rfl, ite2 (fun e2 => ?_) (fun e2 => ?_)⟩
    · refine ⟨_, rfl, a, _, 1, _, rfl, rfl, sql ha1, rfl, _, rfl, _, _, rfl, rfl, hm0, ?_⟩
      refine ⟨_, rfl, a, _, 1, _, rfl, rfl, sql ha1, rfl, _, rfl, _, _, rfl, rfl, wide_div (b := 100) hm0 (by omega) (by decide) (by decide), _, rfl, a, _, 1, 1, rfl, rfl, ha1, rfl, ?_⟩
      refine ⟨_, rfl, q _ _ (Adv.made (cur' := cu / many) (cnt' := cnt) (ds' := es) ?_ ha upd_same ?_ (by omega) (by omega)) (Int.emod_nonneg _ (by omega)) (Int.emod_lt_of_pos _ hm0)⟩
      · rw [hid_src1]
        exact sm1
      · rw [upd_ne hda]
        exact hd1
    · have x1 := of_decide_eq_false (Bool.eq_false_iff.mpr e)
      have x2 := of_decide_eq_false (Bool.eq_false_iff.mpr e2)
      omega

end
end Rn
namespace Rn
open PySem PySem.Spec PyProof.Rows L2
section
variable {P : Program} {w : World} {K : PySem.W.Frag} {mg : Str → Option Value} {base : Heap}
/-- on two ints -/
def sp_law_same0 (K : PySem.W.Frag) : Sp := fun vs H Q _ => ∃ x y : Int, vs = [.int x, .int y] ∧ Q (.bl (decide (x = y))) H
theorem ok_law_same0 (T : Txt K mg) : FnOk P w K mg base CX0 1 T.f_law_same T.d_law_same ["found", "wanted"] (sp_law_same0 K) := by
  have G_law_same : FnOk P w K mg base CX0 0 T.f_law_same T.d_law_same ["found", "wanted"] (fun _ _ _ _ => False) := ⟨fun _ _ _ _ h => h.elim, fun _ _ _ _ _ _ _ _ _ _ _ _ _ h => h.elim⟩
  refine T.F_law_same.ok sc_law_same (fun vs H Q E h => ?_) (fun cdv A outer s H vs Q E hr h => ?_)
  · obtain ⟨x, y, rfl, _⟩ := h
    rfl
  obtain ⟨x, y, rfl, q⟩ := h
  refine ⟨_, (pss_cons (ps_if (pt_cmpR op_isN (pv 1) pe_non (nomark _))
      (pss_one (ps_ret (pe_cmpR op_isN (pv 0) pe_non (nomark _))))
      pss_nil)
      (pss_cons (ps_if (pt_val (pe_callB call_isi (by rfl) T.m_isinstance (by decide +kernel) (pa_cons (pv 1) (pa_cons (pe_bltn (v := .ty "bool") (by rfl) T.m_bool (by decide +kernel) rfl) pa_nil))))
      (pss_one (ps_ret (pe_and (pe_callB call_isi (by rfl) T.m_isinstance (by decide +kernel) (pa_cons (pv 0) (pa_cons (pe_bltn (v := .ty "bool") (by rfl) T.m_bool (by decide +kernel) rfl) pa_nil))) (pe_one (pe_cmpR op_eq (pv 0) (pv 1) (nomark _))))))
      pss_nil)
      (pss_cons (ps_if (pt_val (pe_callB call_isi (by rfl) T.m_isinstance (by decide +kernel) (pa_cons (pv 1) (pa_cons (pe_bltn (v := .ty "int") (by rfl) T.m_int (by decide +kernel) rfl) pa_nil))))
      (pss_one (ps_ret (pe_and (pe_callB call_isi (by rfl) T.m_isinstance (by decide +kernel) (pa_cons (pv 0) (pa_cons (pe_bltn (v := .ty "int") (by rfl) T.m_int (by decide +kernel) rfl) pa_nil))) (pe_and (pe_not (pe_callB call_isi (by rfl) T.m_isinstance (by decide +kernel) (pa_cons (pv 0) (pa_cons (pe_bltn (v := .ty "bool") (by rfl) T.m_bool (by decide +kernel) rfl) pa_nil)))) (pe_one (pe_cmpR op_eq (pv 0) (pv 1) (nomark _)))))))
      pss_nil)
      (pss_cons (ps_if (pt_val (pe_callB call_isi (by rfl) T.m_isinstance (by decide +kernel) (pa_cons (pv 1) (pa_cons (pe_bltn (v := .ty "str") (by rfl) T.m_str (by decide +kernel) rfl) pa_nil))))
      (pss_one (ps_ret (pe_and (pe_callB call_isi (by rfl) T.m_isinstance (by decide +kernel) (pa_cons (pv 0) (pa_cons (pe_bltn (v := .ty "str") (by rfl) T.m_str (by decide +kernel) rfl) pa_nil))) (pe_one (pe_cmpR op_eq (pv 0) (pv 1) (nomark _))))))
      pss_nil)
      (pss_cons (ps_if (pt_cmpR op_ne (pe_callB call_isi (by rfl) T.m_isinstance (by decide +kernel) (pa_cons (pv 0) (pa_cons (pe_bltn (v := .ty "list") (by rfl) T.m_list (by decide +kernel) rfl) pa_nil))) (pe_callB call_isi (by rfl) T.m_isinstance (by decide +kernel) (pa_cons (pv 1) (pa_cons (pe_bltn (v := .ty "list") (by rfl) T.m_list (by decide +kernel) rfl) pa_nil))) (nomark _))
      (pss_one (ps_ret pe_bl))
      pss_nil)
      (pss_cons (ps_if (PW.pt (pw_or (pt_cmpR op_ne (pe_callB call_isi (by rfl) T.m_isinstance (by decide +kernel) (pa_cons (pv 0) (pa_cons (pe_bltn (v := .ty "tuple") (by rfl) T.m_tuple (by decide +kernel) rfl) pa_nil))) (pe_callB call_isi (by rfl) T.m_isinstance (by decide +kernel) (pa_cons (pv 1) (pa_cons (pe_bltn (v := .ty "tuple") (by rfl) T.m_tuple (by decide +kernel) rfl) pa_nil))) (nomark _)) (pw_or1 (pt_cmpR op_ne (pe_callB call_len_seq (by rfl) T.m_len PySem.boot_len (pa_cons (pv 0) pa_nil)) (pe_callB call_len_seq (by rfl) T.m_len PySem.boot_len (pa_cons (pv 1) pa_nil)) (nomark _)))))
      (pss_one (ps_ret pe_bl))
      pss_nil)
      (pss_one (ps_ret (pe_cmpR (op_eqD hr.units) (pe_lc (own := [("k", 2)]) (g := gName 2)  rfl sc_law_same.nd (pi_range1 (by rfl) T.m_range (pa_cons (pe_callB call_len_seq (by rfl) T.m_len PySem.boot_len (pa_cons (pv 1) pa_nil)) pa_nil)) (blkOk_by (N := ["found", "wanted", "k"]) (sc := defScope s_law_same) (by decide +kernel)) (fun _ _ _ _ _ => (pg_name (i := 2) sc_law_same.nd rfl (Or.inl rfl))) (fun _ _ _ _ _ => (pts_one (pt_not (pt_val (pe_call G_law_same hr (by rfl) T.g_law_same T.F_law_same.kp T.b_law_same .nil pass0 (pa_cons (pe_ix (ix_listK (K := K) rfl) (pv 0) (pv 2) (fun _ _ => rfl)) (pa_cons (pe_ix (ix_listK (K := K) rfl) (pv 1) (pv 2) (fun _ _ => rfl)) pa_nil))))))) (fun _ _ _ _ _ => (pv 2))) (pe_lst pa_nil) (nomark _)))))))))), ?_⟩
  refine ⟨_, rfl, rfl, false, rfl, iteF ?_⟩
  refine ⟨_, rfl, _, _, _, _, false, rfl, .ty "bool", .base (.int y), kit_ty (by decide +kernel), false, rfl, iteF ?_⟩
  refine ⟨_, rfl, _, _, _, _, true, rfl, .ty "int", .base (.int y), kit_ty (by decide +kernel), true, rfl, iteT ?_⟩
  refine ⟨_, rfl, _, _, _, _, true, rfl, .ty "int", .base (.int x), kit_ty (by decide +kernel), true, rfl, iteT ?_⟩
  refine ⟨_, rfl, _, _, _, _, false, rfl, .ty "bool", .base (.int x), kit_ty (by decide +kernel), false, rfl, true, rfl, iteT ?_⟩
  refine ⟨_, rfl, _, rfl, rfl, ?_⟩
  by_cases e : x = y
  · rw [decide_eq_true e] at q
    rw [decide_eq_true (show V.int x = V.int y from congrArg _ e)]
    exact q
  · rw [decide_eq_false e] at q
    rw [decide_eq_false fun z => e (V.int.inj z)]
    exact q
/-- on two lists of ints -/
def sp_law_same (K : PySem.W.Frag) : Sp := fun vs H Q _ => ∃ (p q : Addr) (xs ys : List Int), vs = [.ref p, .ref q] ∧ H p = some (.lst (xs.map V.int)) ∧ H q = some (.lst (ys.map V.int)) ∧ ys.length ≤ 20000 ∧ ∀ H', Same H H' → Q (.bl (decide (xs = ys))) H'
theorem ok_law_same (T : Txt K mg) : FnOk P w K mg base CX0 2 T.f_law_same T.d_law_same ["found", "wanted"] (sp_law_same K) := by
  have G_law_same := ok_law_same0 (P := P) (w := w) (base := base) T
  refine T.F_law_same.ok sc_law_same (fun vs H Q E h => ?_) (fun cdv A outer s H vs Q E hr h => ?_)
  · obtain ⟨p, q, xs, ys, rfl, _⟩ := h
    rfl
  obtain ⟨p, q, xs, ys, rfl, hp, hq, hz, k⟩ := h
  refine ⟨_, (pss_cons (ps_if (pt_cmpR op_isN (pv 1) pe_non (nomark _))
      (pss_one (ps_ret (pe_cmpR op_isN (pv 0) pe_non (nomark _))))
      pss_nil)
      (pss_cons (ps_if (pt_val (pe_callB call_isi (by rfl) T.m_isinstance (by decide +kernel) (pa_cons (pv 1) (pa_cons (pe_bltn (v := .ty "bool") (by rfl) T.m_bool (by decide +kernel) rfl) pa_nil))))
      (pss_one (ps_ret (pe_and (pe_callB call_isi (by rfl) T.m_isinstance (by decide +kernel) (pa_cons (pv 0) (pa_cons (pe_bltn (v := .ty "bool") (by rfl) T.m_bool (by decide +kernel) rfl) pa_nil))) (pe_one (pe_cmpR op_eq (pv 0) (pv 1) (nomark _))))))
      pss_nil)
      (pss_cons (ps_if (pt_val (pe_callB call_isi (by rfl) T.m_isinstance (by decide +kernel) (pa_cons (pv 1) (pa_cons (pe_bltn (v := .ty "int") (by rfl) T.m_int (by decide +kernel) rfl) pa_nil))))
      (pss_one (ps_ret (pe_and (pe_callB call_isi (by rfl) T.m_isinstance (by decide +kernel) (pa_cons (pv 0) (pa_cons (pe_bltn (v := .ty "int") (by rfl) T.m_int (by decide +kernel) rfl) pa_nil))) (pe_and (pe_not (pe_callB call_isi (by rfl) T.m_isinstance (by decide +kernel) (pa_cons (pv 0) (pa_cons (pe_bltn (v := .ty "bool") (by rfl) T.m_bool (by decide +kernel) rfl) pa_nil)))) (pe_one (pe_cmpR op_eq (pv 0) (pv 1) (nomark _)))))))
      pss_nil)
      (pss_cons (ps_if (pt_val (pe_callB call_isi (by rfl) T.m_isinstance (by decide +kernel) (pa_cons (pv 1) (pa_cons (pe_bltn (v := .ty "str") (by rfl) T.m_str (by decide +kernel) rfl) pa_nil))))
      (pss_one (ps_ret (pe_and (pe_callB call_isi (by rfl) T.m_isinstance (by decide +kernel) (pa_cons (pv 0) (pa_cons (pe_bltn (v := .ty "str") (by rfl) T.m_str (by decide +kernel) rfl) pa_nil))) (pe_one (pe_cmpR op_eq (pv 0) (pv 1) (nomark _))))))
      pss_nil)
      (pss_cons (ps_if (pt_cmpR op_ne (pe_callB call_isi (by rfl) T.m_isinstance (by decide +kernel) (pa_cons (pv 0) (pa_cons (pe_bltn (v := .ty "list") (by rfl) T.m_list (by decide +kernel) rfl) pa_nil))) (pe_callB call_isi (by rfl) T.m_isinstance (by decide +kernel) (pa_cons (pv 1) (pa_cons (pe_bltn (v := .ty "list") (by rfl) T.m_list (by decide +kernel) rfl) pa_nil))) (nomark _))
      (pss_one (ps_ret pe_bl))
      pss_nil)
      (pss_cons (ps_if (PW.pt (pw_or (pt_cmpR op_ne (pe_callB call_isi (by rfl) T.m_isinstance (by decide +kernel) (pa_cons (pv 0) (pa_cons (pe_bltn (v := .ty "tuple") (by rfl) T.m_tuple (by decide +kernel) rfl) pa_nil))) (pe_callB call_isi (by rfl) T.m_isinstance (by decide +kernel) (pa_cons (pv 1) (pa_cons (pe_bltn (v := .ty "tuple") (by rfl) T.m_tuple (by decide +kernel) rfl) pa_nil))) (nomark _)) (pw_or1 (pt_cmpR op_ne (pe_callB call_len_seq (by rfl) T.m_len PySem.boot_len (pa_cons (pv 0) pa_nil)) (pe_callB call_len_seq (by rfl) T.m_len PySem.boot_len (pa_cons (pv 1) pa_nil)) (nomark _)))))
      (pss_one (ps_ret pe_bl))
      pss_nil)
      (pss_one (ps_ret (pe_cmpR (op_eqD hr.units) (pe_lc (own := [("k", 2)]) (g := gName 2)  rfl sc_law_same.nd (pi_range1 (by rfl) T.m_range (pa_cons (pe_callB call_len_seq (by rfl) T.m_len PySem.boot_len (pa_cons (pv 1) pa_nil)) pa_nil)) (blkOk_by (N := ["found", "wanted", "k"]) (sc := defScope s_law_same) (by decide +kernel)) (fun _ _ _ _ _ => (pg_name (i := 2) sc_law_same.nd rfl (Or.inl rfl))) (fun _ _ _ _ _ => (pts_one (pt_not (pt_val (pe_call G_law_same hr (by rfl) T.g_law_same T.F_law_same.kp T.b_law_same .nil pass0 (pa_cons (pe_ix (ix_listK (K := K) rfl) (pv 0) (pv 2) (fun _ _ => rfl)) (pa_cons (pe_ix (ix_listK (K := K) rfl) (pv 1) (pv 2) (fun _ _ => rfl)) pa_nil))))))) (fun _ _ _ _ _ => (pv 2))) (pe_lst pa_nil) (nomark _)))))))))), ?_⟩
  refine ⟨_, rfl, rfl, false, rfl, iteF ?_⟩
  refine ⟨_, rfl, _, _, _, _, false, rfl, .ty "bool", .base (.lst hq), kit_ty (by decide +kernel), false, rfl, iteF ?_⟩
  refine ⟨_, rfl, _, _, _, _, false, rfl, .ty "int", .base (.lst hq), kit_ty (by decide +kernel), false, rfl, iteF ?_⟩
  refine ⟨_, rfl, _, _, _, _, false, rfl, .ty "str", .base (.lst hq), kit_ty (by decide +kernel), false, rfl, iteF ?_⟩
  refine ⟨_, rfl, _, _, _, _, true, rfl, .ty "list", .base (.lst hp), kit_ty (by decide +kernel), _, rfl, _, _, _, _, true, rfl, .ty "list", .base (.lst hq), kit_ty (by decide +kernel), rfl, false, rfl, iteF ?_⟩
  refine ⟨_, rfl, _, _, _, _, false, rfl, .ty "tuple", .base (.lst hp), kit_ty (by decide +kernel), _, rfl, _, _, _, _, false, rfl, .ty "tuple", .base (.lst hq), kit_ty (by decide +kernel), rfl, false, rfl, iteF ?_⟩
  refine ⟨_, rfl, p, _, rfl, .inl (sql hp), _, rfl, q, _, rfl, .inl (sql hq), rfl, _, rfl, ?_⟩
  have lx : (xs.map V.int).length = xs.length := List.length_map ..
  have ly : (ys.map V.int).length = ys.length := List.length_map ..
  by_cases e : xs.length = ys.length
  · rw [show (decide (V.int ((xs.map V.int).length : Int) = V.int ((ys.map V.int).length : Int))) = true from decide_eq_true (by rw [lx, ly, e])]
    refine iteF ?_
    -- the places where they differ
    refine ⟨_, rfl, q, _, rfl, .inl (sql hq), _, rfl, by rw [ly]; omega, by rw [ly]; omega, fun D hD => ?_⟩
    have np : p ≠ D := ne_of_none hp hD
    have nq : q ≠ D := ne_of_none hq hD
    refine lc_range (lo := 0) (n := _) (fun i H' => ∃ ks : List Int, H' D = some (.lst (ks.map V.int)) ∧ ks.length ≤ i ∧ (ks = [] ↔ xs.take i = ys.take i) ∧ Same H H')
      ⟨[], upd_same, Nat.le_refl _, ⟨fun _ => by rw [List.take_zero, List.take_zero], fun _ => rfl⟩, same_new hD⟩ (fun i H2 hi h => ?_) (fun H2 h => ?_)
    · rw [ly] at hi
      have hi' : i < ys.length := by omega
      have hx' : i < xs.length := by omega
      obtain ⟨ks, hk, hkl, hiff, sm⟩ := h
      refine ⟨rfl, ?_⟩
      have gx : atI (xs.map V.int) (0 + (i : Int)) = some (.int xs[i]) := by rw [Int.zero_add]; exact atI_nat (map_get (List.getElem?_eq_getElem hx'))
      have gy : atI (ys.map V.int) (0 + (i : Int)) = some (.int ys[i]) := by rw [Int.zero_add]; exact atI_nat (map_get (List.getElem?_eq_getElem hi'))
      refine ⟨_, rfl, _, rfl, p, _, _, .int xs[i], rfl, rfl, sql (sm _ _ hp), gx, _, rfl, _, rfl, q, _, _, .int ys[i], rfl, rfl, sql (sm _ _ hq), gy, xs[i], ys[i], rfl, _, rfl, ?_⟩
      have tx : xs.take (i + 1) = xs.take i ++ [xs[i]] := by rw [List.take_add_one, List.getElem?_eq_getElem hx']; rfl
      have ty : ys.take (i + 1) = ys.take i ++ [ys[i]] := by rw [List.take_add_one, List.getElem?_eq_getElem hi']; rfl
      have lt : (xs.take i).length = (ys.take i).length := by rw [List.length_take, List.length_take]; omega
      by_cases ei : xs[i] = ys[i]
      · rw [decide_eq_true ei]
        refine iteF ⟨ks, hk, by omega, ?_, sm⟩
        rw [hiff, tx, ty, ei]
        exact ⟨fun z => by rw [z], fun z => (List.append_inj z lt).1⟩
      · rw [decide_eq_false ei]
        refine iteT ⟨_, rfl, _, hk, size_lt (by rw [List.length_map]; omega), ks ++ [0 + (i : Int)], by rw [upd_same, List.map_append]; rfl, by rw [List.length_append]; exact Nat.succ_le_succ hkl, ?_, same_keep sm hD⟩
        rw [tx, ty]
        refine ⟨fun z => ?_, fun z => ?_⟩
        · exact absurd z (by simp)
        · have := (List.append_inj z lt).2
          injection this with h1 h2
          exact absurd h1 ei
    · obtain ⟨ks, hk, hkl, hiff, sm⟩ := h
      have fin : (ks = []) ↔ xs = ys := by
        rw [hiff, ly]
        have e2 : ((ys.length : Int)).toNat = ys.length := Int.toNat_natCast _
        rw [e2, List.take_length, ← e, List.take_length]
      refine ⟨Nat.zero_le _, fun o ho => ?_⟩
      refine ⟨dInts ks, dInts [], dp_ints (sql (same_new ho _ _ hk)), dp_nil (sql upd_same), shaped_ints _, shaped_ints _, ?_⟩
      rw [eqv_ints]
      have := k (upd H2 o (.lst [])) (sm.trans (same_new ho))
      by_cases z : xs = ys
      · rw [decide_eq_true z] at this
        rw [decide_eq_true (fin.mpr z)]
        exact this
      · rw [decide_eq_false z] at this
        rw [decide_eq_false fun y => z (fin.mp y)]
        exact this
  · rw [show (decide (V.int ((xs.map V.int).length : Int) = V.int ((ys.map V.int).length : Int))) = false from decide_eq_false fun z => e (by have := V.int.inj z; rw [lx, ly] at this; omega)]
    have := k H (Same.refl H)
    rw [decide_eq_false fun z => e (by rw [z])] at this
    exact iteT this

end
end Rn
namespace Rn
open PySem PySem.Spec PyProof.Rows L2
section
variable {P : Program} {w : World} {K : PySem.W.Frag} {mg : Str → Option Value} {base : Heap}
def sp_law_wait_drawn (K : PySem.W.Frag) : Sp := fun vs H Q _ => ∃ (a d : Addr) (n : Int), vs = [.ref a] ∧ Src H a d n ∧ n ≤ 100000000000000 ∧
  ∀ H' r, Adv a d 4 H H' → 0 ≤ r → r < 1000000000000 → Q (.int r) H'
theorem ok_law_wait_drawn (T : Txt K mg) : FnOk P w K mg base CX0 2 T.f_law_wait_drawn T.d_law_wait_drawn ["source"] (sp_law_wait_drawn K) := by
  have G_law_draw := ok_law_draw (P := P) (w := w) (base := base) T
  refine T.F_law_wait_drawn.ok sc_law_wait_drawn (fun vs H Q E h => ?_) (fun cdv A outer s H vs Q E hr h => ?_)
  · obtain ⟨a, d, n, rfl, _⟩ := h
    rfl
  obtain ⟨a, d, n, rfl, hS, hn, q⟩ := h
  refine ⟨_, (pss_cons (ps_set (i := 1) sc_law_wait_drawn.nd rfl (Or.inl rfl) (pe_lst (pa_cons pe_int (pa_cons pe_int (pa_cons (pe_call G_law_draw hr (by rfl) T.g_law_draw T.F_law_draw.kp T.b_law_draw .nil pass0 (pa_cons (pv 0) (pa_cons pe_int pa_nil))) (pa_cons (pe_call G_law_draw hr (by rfl) T.g_law_draw T.F_law_draw.kp T.b_law_draw .nil pass0 (pa_cons (pv 0) (pa_cons pe_int pa_nil))) (pa_cons (pe_op op_sub (pe_op op_sub (pe_op op_pow pe_int pe_int) pe_int) (pe_call G_law_draw hr (by rfl) T.g_law_draw T.F_law_draw.kp T.b_law_draw .nil pass0 (pa_cons (pv 0) (pa_cons pe_int pa_nil)))) pa_nil)))))))
      (pss_one (ps_ret (pe_ix ix_list (pv 1) (pe_call G_law_draw hr (by rfl) T.g_law_draw T.F_law_draw.kp T.b_law_draw .nil pass0 (pa_cons (pv 0) (pa_cons pe_int pa_nil))) (fun _ _ => rfl))))), ?_⟩
  refine ⟨_, rfl, a, d, n, 3, rfl, hS, by omega, by decide, by decide, fun H1 r1 A1 l1 u1 => ?_⟩
  have S1 := A1.src n hS
  refine ⟨_, rfl, a, d, n + 1, 100, rfl, S1, by omega, by decide, by decide, fun H2 r2 A2 l2 u2 => ?_⟩
  have S2 := A2.src _ S1
  refine ⟨_, _, rfl, rfl, ⟨by decide, by decide, by decide⟩, _, _, rfl, rfl, _, rfl, a, d, n + 1 + 1, 9, rfl, S2, by omega, by decide, by decide, fun H3 r3 A3 l3 u3 => ?_⟩
  have S3 := A3.src _ S2
  refine ⟨_, _, rfl, rfl, size_le (by show 5 ≤ 100000; decide), fun o ho => ?_⟩
  have A4 : Adv a d 3 H (upd H3 o (.lst [.int 0, .int 1, .int r1, .int r2, .int (10 ^ (12 : Int).toNat - 1 - r3)])) := ((A1.trans A2 (Int.le_refl _)).trans A3 (Int.le_refl _)).trans (Adv.of (same_new ho)) (by decide)
  have no := S3.new1 ho
  have S4 : Src (upd H3 o (.lst [.int 0, .int 1, .int r1, .int r2, .int (10 ^ (12 : Int).toNat - 1 - r3)])) a d (n + 1 + 1 + 1) := S3.keep no.1 no.2
  have ho4 : hid a d (upd H3 o (.lst [.int 0, .int 1, .int r1, .int r2, .int (10 ^ (12 : Int).toNat - 1 - r3)])) o = some (.lst ([0, 1, r1, r2, 10 ^ (12 : Int).toNat - 1 - r3].map V.int)) := by
    rw [hid_oth no.1 no.2, upd_same]
    rfl
  -- some[..]
  refine ⟨_, rfl, _, rfl, a, d, n + 1 + 1 + 1, 5, rfl, S4, by omega, by decide, by decide, fun H5 r5 A5 l5 u5 => ?_⟩
  obtain ⟨x, hx, _, hat⟩ := at_int (ns := [0, 1, r1, r2, 10 ^ (12 : Int).toNat - 1 - r3]) l5 u5
  have hb : 0 ≤ x ∧ x < 1000000000000 := by
    have pw : (10 : Int) ^ (12 : Int).toNat = 1000000000000 := by decide
    rw [pw] at hx
    simp only [List.mem_cons, List.not_mem_nil, or_false] at hx
    omega
  exact ⟨o, _, r5, .int x, rfl, rfl, sql (hid_get (A5.same _ _ ho4)).1, hat, q H5 x (A4.trans A5 (by decide)) hb.1 hb.2⟩

end
end Rn
namespace Rn
open PySem PySem.Spec PyProof.Rows L2
section
variable {P : Program} {w : World} {K : PySem.W.Frag} {mg : Str → Option Value} {base : Heap}
def sp_law_policy (K : PySem.W.Frag) : Sp := fun vs H Q _ => ∃ (a d : Addr) (n most : Int), vs = [.ref a, .int most] ∧ Src H a d n ∧ n ≤ 10000000000000 ∧ 0 ≤ most ∧ most ≤ 1000 ∧
  ∀ H' p ws, Adv a d (20 + 6 * most) H H' → H p = none → hid a d H' p = some (.lst ((ws : List Int).map V.int)) → (ws.length : Int) ≤ most → (∀ x ∈ ws, 0 ≤ x ∧ x < 1000000000000) → Q (.ref p) H'
theorem ok_law_policy (T : Txt K mg) : FnOk P w K mg base CX0 3 T.f_law_policy T.d_law_policy ["source", "most"] (sp_law_policy K) := by
  have G_law_draw := (ok_law_draw (P := P) (w := w) (base := base) T).mono (by decide : 1 ≤ 2)
  have G_law_wait_drawn := ok_law_wait_drawn (P := P) (w := w) (base := base) T
  refine T.F_law_policy.ok sc_law_policy (fun vs H Q E h => ?_) (fun cdv A outer s H vs Q E hr h => ?_)
  · obtain ⟨a, d, n, most, rfl, _⟩ := h
    rfl
  obtain ⟨a, d, n, most, rfl, hS, hn, hm0, hm1, q⟩ := h
  refine ⟨_, (pss_cons (ps_setLc (i := 2) (own := [("k", 4)]) (g := gName 4) (tt := tYes) rfl sc_law_policy.nd rfl rfl (sw_true rfl rfl rfl (by decide +kernel)) (pi_range1 (by rfl) T.m_range (pa_cons (pe_op op_add pe_int (pe_call G_law_draw hr (by rfl) T.g_law_draw T.F_law_draw.kp T.b_law_draw .nil pass0 (pa_cons (pv 0) (pa_cons pe_int pa_nil)))) pa_nil)) (blkOk_by (N := ["source", "most", "kinds", "found", "k"]) (sc := defScope s_law_policy) (by decide +kernel)) (fun _ _ _ _ _ => (pg_name (i := 4) sc_law_policy.nd rfl (Or.inl rfl))) (fun _ _ _ _ _ => pts_nil) (fun _ _ _ _ _ => (pe_call G_law_wait_drawn hr (by rfl) T.g_law_wait_drawn T.F_law_wait_drawn.kp T.b_law_wait_drawn .nil pass0 (pa_cons (pv 0) pa_nil))))
      (pss_cons (ps_set (i := 3) sc_law_policy.nd rfl (Or.inl rfl) (pe_lst pa_nil))
      (pss_cons (ps_for PassesOwn.never rfl (pi_range1 (by rfl) T.m_range (pa_cons (pe_call G_law_draw hr (by rfl) T.g_law_draw T.F_law_draw.kp T.b_law_draw .nil pass0 (pa_cons (pv 0) (pa_cons (pe_op op_add (pv 1) pe_int) pa_nil))) pa_nil)) (pg_name (i := 4) sc_law_policy.nd rfl (Or.inl rfl))
      (pss_one (ps_expr (pe_bm PySem.F.plainAttrs_list PySem.F.slot_list_append PySem.F.type_list_append mt_append (pv 3) (pa_cons (pe_ifExp (pt_cmpR op_gt (pe_call G_law_draw hr (by rfl) T.g_law_draw T.F_law_draw.kp T.b_law_draw .nil pass0 (pa_cons (pv 0) (pa_cons pe_int pa_nil))) pe_int (nomark _)) (pe_ix ix_list (pv 2) (pe_call G_law_draw hr (by rfl) T.g_law_draw T.F_law_draw.kp T.b_law_draw .nil pass0 (pa_cons (pv 0) (pa_cons (pe_callB call_len_seq (by rfl) T.m_len PySem.boot_len (pa_cons (pv 2) pa_nil)) pa_nil))) (fun _ _ => rfl)) (pe_call G_law_wait_drawn hr (by rfl) T.g_law_wait_drawn T.F_law_wait_drawn.kp T.b_law_wait_drawn .nil pass0 (pa_cons (pv 0) pa_nil))) pa_nil)))))
      (pss_one (ps_ret (pv 3)))))), ?_⟩
  -- kinds
  refine ⟨_, rfl, a, d, n, 3, rfl, hS, by omega, by decide, by decide, fun H1 r1 A1 l1 u1 => ?_⟩
  have S1 := A1.src n hS
  refine ⟨_, _, rfl, rfl, _, rfl, by omega, by omega, fun D hD => ?_⟩
  have hD0 : hid a d H1 D = none := hid_none hD
  have nD := S1.new1 hD
  refine lc_range (lo := 0) (n := (1 + r1).toNat) (fun i H' => ∃ ks : List Int, hid a d H' D = some (.lst (ks.map V.int)) ∧ ks.length = i ∧ (∀ x ∈ ks, 0 ≤ x ∧ x < 1000000000000) ∧ Adv a d (1 + 4 * i) H H')
    ⟨[], by rw [hid_oth nD.1 nD.2, upd_same]; rfl, rfl, (fun _ z => nomatch z), (A1.trans (Adv.of (same_new hD)) (Int.le_refl _)).mono (by omega)⟩ (fun i H2 hi h => ?_) (fun H2 h => ?_)
  · obtain ⟨ks, hk, hkl, hkb, A2⟩ := h
    have S2 := A2.src n hS
    refine ⟨rfl, _, rfl, a, d, n + (1 + 4 * i), rfl, S2, by omega, fun H3 x A3 l3 u3 => ?_⟩
    have hk3 := A3.same _ _ hk
    have S3 := A3.src _ S2
    refine ⟨_, (hid_get hk3).1, size_lt (by rw [List.length_map]; omega), ks ++ [x], ?_, by rw [List.length_append, hkl]; rfl, ?_, ?_⟩
    · rw [hid_oth nD.1 nD.2, upd_same, List.map_append]
      rfl
    · intro y hy
      rcases List.mem_append.mp hy with z | z
      · exact hkb y z
      · rw [List.mem_singleton.mp z]
        exact ⟨l3, u3⟩
    · have hDH : H D = none := A1.free hS hD
      exact ((A2.trans A3 (Int.le_refl _)).mut hS hDH).mono (by omega)
  · obtain ⟨ks, hk, hkl, hkb, A2⟩ := h
    have S2 := A2.src n hS
    have hkn : 1 ≤ ks.length ∧ ks.length ≤ 3 := by omega
    -- found = []
    refine ⟨Nat.zero_le _, fun p hp => ?_⟩
    have np := S2.new1 hp
    have A3 : Adv a d 13 H (upd H2 p (.lst [])) := (A2.trans (Adv.of (same_new hp)) (Int.le_refl _)).mono (by omega)
    have hpH : H p = none := A2.free hS hp
    have hk3 : hid a d (upd H2 p (.lst [])) D = some (.lst (ks.map V.int)) := hid_same (same_new hp) _ _ hk
    have hp3 : hid a d (upd H2 p (.lst [])) p = some (.lst (([] : List Int).map V.int)) := by
      rw [hid_oth np.1 np.2, upd_same]
      rfl
    have nDp : D ≠ p := fun z => by rw [z] at hk; rw [hid_none hp] at hk; cases hk
    generalize upd H2 p (.lst []) = H3 at *
    have S3 := A3.src n hS
    refine ⟨_, rfl, _, rfl, _, _, rfl, rfl, a, d, n + 13, most + 1, rfl, S3, by omega, by omega, by omega, fun H4 r4 A4 l4 u4 => ⟨_, rfl, by omega, by omega, ?_⟩⟩
    refine for_range (lo := 0) (n := r4.toNat) (fun i σ H' => ∃ y4 ws, σ = [some (.ref a), some (.int most), some (.ref D), some (.ref p), y4] ∧ Adv a d (14 + 6 * i) H H' ∧ hid a d H' D = some (.lst (ks.map V.int)) ∧
        hid a d H' p = some (.lst ((ws : List Int).map V.int)) ∧ ws.length = i ∧ (∀ x ∈ ws, 0 ≤ x ∧ x < 1000000000000))
      ⟨none, [], rfl, (A3.trans A4 (Int.le_refl _)).mono (by omega), A4.same _ _ hk3, A4.same _ _ hp3, rfl, (fun _ z => nomatch z)⟩ (fun i σ H5 hi h => ?_) (fun σ H5 h => ?_)
    · obtain ⟨y4, ws, rfl, A5, hk5, hp5, hl5, hb5⟩ := h
      have S5 := A5.src n hS
      refine ⟨_, rfl, .inl ⟨rfl, _, sql (hid_get hp5).1⟩, ?_⟩
      refine ⟨_, rfl, a, d, n + (14 + 6 * i), 4, rfl, S5, by omega, by decide, by decide, fun H6 r6 A6 l6 u6 => ?_⟩
      have S6 := A6.src _ S5
      have hk6 := A6.same _ _ hk5
      have hp6 := A6.same _ _ hp5
      -- the end of a turn
      have fin : ∀ H7 x, Adv a d 4 H6 H7 → 0 ≤ x → x < 1000000000000 → H7 p = some (.lst (ws.map V.int)) ∧ (ws.map V.int).length < sizeLine ∧
          (∃ y4 ws', [some (V.ref a), some (.int most), some (.ref D), some (.ref p), some (.int (0 + (i : Int)))] = [some (.ref a), some (.int most), some (.ref D), some (.ref p), y4] ∧ Adv a d (14 + 6 * ((i + 1 : Nat) : Int)) H (upd H7 p (.lst (ws.map V.int ++ [.int x]))) ∧
            hid a d (upd H7 p (.lst (ws.map V.int ++ [.int x]))) D = some (.lst (ks.map V.int)) ∧ hid a d (upd H7 p (.lst (ws.map V.int ++ [.int x]))) p = some (.lst ((ws' : List Int).map V.int)) ∧ ws'.length = i + 1 ∧ (∀ x ∈ ws', 0 ≤ x ∧ x < 1000000000000)) := by
        intro H7 x A7 l7 u7
        have hp7 := A7.same _ _ hp6
        refine ⟨(hid_get hp7).1, size_lt (by rw [List.length_map]; omega), _, ws ++ [x], rfl, ?_, ?_, ?_, by rw [List.length_append, hl5]; rfl, ?_⟩
        · exact ((((A5.trans A6 (Int.le_refl _)).trans A7 (Int.le_refl _)).mut hS hpH)).mono (by omega)
        · rw [hid_oth np.1 np.2, upd_ne nDp]
          exact A7.same _ _ hk6
        · rw [hid_oth np.1 np.2, upd_same, List.map_append]
          rfl
        · intro y hy
          rcases List.mem_append.mp hy with z | z
          · exact hb5 y z
          · rw [List.mem_singleton.mp z]
            exact ⟨l7, u7⟩
      refine ⟨_, _, rfl, rfl, _, rfl, ite2 (fun e => ?_) (fun e => ?_)⟩
      · -- kinds[..]
        refine ⟨_, rfl, _, rfl, _, rfl, D, _, rfl, .inl (sql (hid_get hk6).1), a, d, n + (14 + 6 * i) + 1, ks.length, (by rw [List.length_map]; rfl), S6, by omega, by omega, by omega, fun H7 r7 A7 l7 u7 => ?_⟩
        obtain ⟨x, hx, _, hat⟩ := at_int l7 u7
        refine ⟨D, _, r7, .int x, rfl, rfl, sql (hid_get (A7.same _ _ hk6)).1, hat, ?_⟩
        obtain ⟨f1, f2, f3⟩ := fin H7 x (A7.mono (by decide)) (hkb x hx).1 (hkb x hx).2
        exact ⟨p, _, _, rfl, rfl, f1, f2, f3⟩
      · refine ⟨_, rfl, a, d, n + (14 + 6 * i) + 1, rfl, S6, by omega, fun H7 x A7 l7 u7 => ?_⟩
        obtain ⟨f1, f2, f3⟩ := fin H7 x A7 l7 u7
        exact ⟨p, _, _, rfl, rfl, f1, f2, f3⟩
    · obtain ⟨y4, ws, rfl, A5, hk5, hp5, hl5, hb5⟩ := h
      exact ⟨_, rfl, q H5 p ws (A5.mono (by omega)) hpH hp5 (by omega) hb5⟩

end
end Rn
namespace Rn
open PySem PySem.Spec PyProof.Rows L2
section
variable {P : Program} {w : World} {K : PySem.W.Frag} {mg : Str → Option Value} {base : Heap}
def sp_law_wait_at (K : PySem.W.Frag) : Sp := fun vs H Q _ => ∃ (a : Addr) (Ls : List Lay) (j : Nat) (x : Int), vs = [.ref a, .int ((j : Int) + 1)] ∧ NestAt H a Ls ∧ (∀ L ∈ Ls, L.ok = true ∧ L.cnt < 2 ^ 100) ∧ (flatL Ls)[j]? = some x ∧ Q (.int x) H
theorem ok_law_wait_at (T : Txt K mg) : FnOk P w K mg base CX0 1 T.f_law_wait_at T.d_law_wait_at ["layers", "index"] (sp_law_wait_at K) := by
  refine T.F_law_wait_at.ok sc_law_wait_at (fun vs H Q E h => ?_) (fun cdv A outer s H vs Q E hr h => ?_)
  · obtain ⟨a, Ls, j, x, rfl, _⟩ := h
    rfl
  obtain ⟨a, Ls, j, x, rfl, hN, hok, hj, q⟩ := h
  refine ⟨_, (pss_cons (ps_set (i := 2) sc_law_wait_at.nd rfl (Or.inl rfl) (pv 1))
      (pss_cons (ps_for PassesOwn.never rfl (pi_list (pv 0)) (pg_name (i := 3) sc_law_wait_at.nd rfl (Or.inl rfl))
      (pss_cons (ps_set (i := 4) sc_law_wait_at.nd rfl (Or.inl rfl) (pe_ifExp (pt_val (pe_callB call_isi (by rfl) T.m_isinstance (by decide +kernel) (pa_cons (pv 3) (pa_cons (pe_bltn (v := .ty "tuple") (by rfl) T.m_tuple (by decide +kernel) rfl) pa_nil)))) (pe_ix ix_tup (pv 3) pe_int (fun _ _ => rfl)) (pe_op op_add (pe_callB call_len_seq (by rfl) T.m_len PySem.boot_len (pa_cons (pv 3) pa_nil)) pe_int)))
      (pss_cons (ps_if (pt_cmpR op_gt (pe_op op_mod (pv 2) (pv 4)) pe_int (nomark _))
      (pss_one (ps_ret (pe_ifExp (pt_val (pe_callB call_isi (by rfl) T.m_isinstance (by decide +kernel) (pa_cons (pv 3) (pa_cons (pe_bltn (v := .ty "tuple") (by rfl) T.m_tuple (by decide +kernel) rfl) pa_nil)))) (pe_ix ix_tup (pv 3) pe_int (fun _ _ => rfl)) (pe_ix ix_list (pv 3) (pe_op op_sub (pe_op op_mod (pv 2) (pv 4)) pe_int) (fun _ _ => rfl)))))
      pss_nil)
      (pss_one (ps_set (i := 2) sc_law_wait_at.nd rfl (Or.inl rfl) (pe_op op_fdivW (pv 2) (pv 4)))))))
      (pss_one (ps_ret pe_non)))), ?_⟩
  obtain ⟨vs, hv, hl, hat⟩ := id hN
  refine ⟨_, rfl, _, rfl, a, rfl, ⟨vs, sql hv⟩, for_list (xs := vs) (fun i σ H' => (∃ (m : Nat) (y3 y4 : Option V), σ = [some (.ref a), some (.int ((j : Int) + 1)), some (.int ((m : Int) + 1)), y3, y4] ∧ (flatL (Ls.drop i))[m]? = some x) ∧ H' = H) ⟨⟨j, none, none, rfl, hj⟩, rfl⟩ (fun i σ H' _ h => by rw [h.2]; exact sql hv) (fun i y σ H' hx h => ?_) (fun σ H' h => ?_)⟩
  · obtain ⟨⟨m, y3, y4, rfl, hm⟩, rfl⟩ := h
    have hi : i < Ls.length := by
      rw [← hl]
      exact (List.getElem?_eq_some_iff.mp hx).1
    have hi' := List.getElem?_eq_getElem hi
    obtain ⟨h1, h2⟩ := hok _ (List.getElem_mem hi)
    have h3 := LayAt.con_pos h1
    have hLx := hat i y _ hx hi'
    have hd : Ls.drop i = Ls[i] :: Ls.drop (i + 1) := List.drop_eq_getElem_cons hi
    have hok' : ∀ M ∈ Ls[i] :: Ls.drop (i + 1), M.ok = true := by
      rw [← hd]
      exact fun M hM => (hok M (List.mem_of_mem_drop hM)).1
    rw [hd, flatL_cons hok'] at hm
    have hmlt := (List.getElem?_eq_some_iff.mp hm).1
    rw [nestL_get _ _ _ hmlt] at hm
    have hw := waits_len h1
    generalize Ls[i] = L at *
    have pos : (0 : Int) < L.cnt := by omega
    have em : ((m : Int) + 1) % L.cnt = (((m + 1) % (L.waits.length + 1) : Nat) : Int) := by
      rw [← hw, Int.natCast_emod]
      push_cast
      rfl
    have ed : ((m : Int) + 1) / L.cnt = (((m + 1) / (L.waits.length + 1) : Nat) : Int) := by
      rw [← hw, Int.natCast_ediv]
      push_cast
      rfl
    have lc : L.cnt.natAbs < 2 ^ 100 := by
      have := h2
      clear em ed hm hmlt hw
      omega
    cases L with
    | con wt n =>
      obtain ⟨p, rfl, hp⟩ := hLx
      have hc : (Lay.con wt n).cnt = n := rfl
      rw [hc] at em ed pos lc
      refine ⟨_, rfl, _, _, _, _, true, rfl, .ty "tuple", .base (.tup hp), kit_ty (by decide +kernel), true, rfl, iteT ?_⟩
      refine ⟨_, rfl, p, _, 1, _, rfl, rfl, sqt hp, rfl, ?_⟩
      refine ⟨_, rfl, _, rfl, _, _, rfl, rfl, pos, _, _, rfl, rfl, _, rfl, ite2 (fun e => ?_) (fun e => ?_)⟩
      · have e' := of_decide_eq_true e
        rw [em] at e'
        rw [if_neg (by omega)] at hm
        refine ⟨_, rfl, _, _, _, _, true, rfl, .ty "tuple", .base (.tup hp), kit_ty (by decide +kernel), true, rfl, iteT ?_⟩
        refine ⟨_, rfl, p, _, 0, _, rfl, rfl, sqt hp, rfl, ?_⟩
        have hx : x = wt := by
          have := List.mem_of_getElem? hm
          exact (List.mem_replicate.mp this).2
        rw [hx] at q
        exact q
      · have e' := of_decide_eq_false (Bool.eq_false_iff.mpr e)
        rw [em] at e'
        rw [if_pos (by omega)] at hm
        refine ⟨_, rfl, _, rfl, _, _, rfl, rfl, wide_div (b := 100) pos lc (by decide) (by decide), ⟨(m + 1) / ((Lay.con wt n).waits.length + 1) - 1, some (.ref p), some (.int n), ?_, hm⟩, rfl⟩
        show [some (V.ref a), some (V.int ((j : Int) + 1)), some (V.int (((m : Int) + 1) / n)), some (V.ref p), some (V.int n)] = _
        rw [ed]
        have one : 1 ≤ (m + 1) / ((Lay.con wt n).waits.length + 1) := by
          have := Nat.div_add_mod (m + 1) ((Lay.con wt n).waits.length + 1)
          rcases Nat.eq_zero_or_pos ((m + 1) / ((Lay.con wt n).waits.length + 1)) with z | z
          · rw [z] at this
            omega
          · exact z
        have : ((((m + 1) / ((Lay.con wt n).waits.length + 1) : Nat) : Int)) = (((m + 1) / ((Lay.con wt n).waits.length + 1) - 1 : Nat) : Int) + 1 := by omega
        rw [this]
    | pol ns =>
      obtain ⟨p, rfl, hp⟩ := hLx
      have hc : (Lay.pol ns).cnt = (ns.length : Int) + 1 := rfl
      have hwl : (Lay.pol ns).waits = ns := rfl
      have ln : ((ns.map V.int).length : Int) + 1 = (ns.length : Int) + 1 := by rw [List.length_map]
      rw [hc, ← ln] at em ed pos lc
      rw [hwl] at em ed hm
      refine ⟨_, rfl, _, _, _, _, false, rfl, .ty "tuple", .base (.lst hp), kit_ty (by decide +kernel), false, rfl, iteF ?_⟩
      refine ⟨_, rfl, p, _, rfl, .inl (sql hp), _, _, rfl, rfl, ?_⟩
      refine ⟨_, rfl, _, rfl, _, _, rfl, rfl, pos, _, _, rfl, rfl, _, rfl, ite2 (fun e => ?_) (fun e => ?_)⟩
      · have e' := of_decide_eq_true e
        rw [em] at e'
        rw [if_neg (by omega)] at hm
        refine ⟨_, rfl, _, _, _, _, false, rfl, .ty "tuple", .base (.lst hp), kit_ty (by decide +kernel), false, rfl, iteF ?_⟩
        refine ⟨_, rfl, _, rfl, _, rfl, _, _, rfl, rfl, pos, _, _, rfl, rfl, p, _, _, .int x, rfl, rfl, sql hp, ?_, q⟩
        rw [em]
        have : (((m + 1) % (ns.length + 1) : Nat) : Int) - 1 = (((m + 1) % (ns.length + 1) - 1 : Nat) : Int) := by omega
        rw [this]
        exact atI_nat (map_get hm)
      · have e' := of_decide_eq_false (Bool.eq_false_iff.mpr e)
        rw [em] at e'
        rw [if_pos (by omega)] at hm
        refine ⟨_, rfl, _, rfl, _, _, rfl, rfl, wide_div (b := 100) pos lc (by decide) (by decide), ⟨(m + 1) / (ns.length + 1) - 1, some (.ref p), some (.int (((ns.map V.int).length : Int) + 1)), ?_, hm⟩, rfl⟩
        show [some (V.ref a), some (V.int ((j : Int) + 1)), some (V.int (((m : Int) + 1) / (((ns.map V.int).length : Int) + 1))), some (V.ref p), some (V.int (((ns.map V.int).length : Int) + 1))] = _
        rw [ed]
        have one : 1 ≤ (m + 1) / (ns.length + 1) := by
          have := Nat.div_add_mod (m + 1) (ns.length + 1)
          rcases Nat.eq_zero_or_pos ((m + 1) / (ns.length + 1)) with z | z
          · rw [z] at this
            omega
          · exact z
        have : ((((m + 1) / (ns.length + 1) : Nat) : Int)) = (((m + 1) / (ns.length + 1) - 1 : Nat) : Int) + 1 := by omega
        rw [this]
  · obtain ⟨⟨m, y3, y4, rfl, hm⟩, rfl⟩ := h
    rw [hl, List.drop_length] at hm
    cases hm

end
end Rn
namespace Rn
open PySem PySem.Spec PyProof.Rows L2
section
variable {P : Program} {w : World} {K : PySem.W.Frag} {mg : Str → Option Value} {base : Heap}
def sp_law_total (K : PySem.W.Frag) : Sp := fun vs H Q _ => ∃ (a : Addr) (Ls : List Lay), vs = [.ref a] ∧ NestAt H a Ls ∧ (∀ L ∈ Ls, L.ok = true ∧ L.cnt < 2 ^ 100) ∧ Ls.length ≤ 5000 ∧ Q (.int (attOf Ls)) H
theorem ok_law_total (T : Txt K mg) : FnOk P w K mg base CX0 1 T.f_law_total T.d_law_total ["layers"] (sp_law_total K) := by
  refine T.F_law_total.ok sc_law_total (fun vs H Q E h => ?_) (fun cdv A outer s H vs Q E hr h => ?_)
  · obtain ⟨a, Ls, rfl, _⟩ := h
    rfl
  obtain ⟨a, Ls, rfl, hN, hok, hz, q⟩ := h
  refine ⟨_, (pss_cons (ps_set (i := 1) sc_law_total.nd rfl (Or.inl rfl) pe_int)
      (pss_cons (ps_for PassesOwn.never rfl (pi_list (pv 0)) (pg_name (i := 2) sc_law_total.nd rfl (Or.inl rfl))
      (pss_one (ps_set (i := 1) sc_law_total.nd rfl (Or.inl rfl) (pe_op op_mulW (pv 1) (pe_ifExp (pt_val (pe_callB call_isi (by rfl) T.m_isinstance (by decide +kernel) (pa_cons (pv 2) (pa_cons (pe_bltn (v := .ty "tuple") (by rfl) T.m_tuple (by decide +kernel) rfl) pa_nil)))) (pe_ix ix_tup (pv 2) pe_int (fun _ _ => rfl)) (pe_op op_add (pe_callB call_len_seq (by rfl) T.m_len PySem.boot_len (pa_cons (pv 2) pa_nil)) pe_int))))))
      (pss_one (ps_ret (pv 1))))), ?_⟩
  obtain ⟨vs, hv, hl, hat⟩ := id hN
  refine ⟨_, rfl, a, rfl, ⟨vs, sql hv⟩, for_list (xs := vs) (fun i σ H' => (∃ y2, σ = [some (.ref a), some (.int (attOf (Ls.take i))), y2]) ∧ H' = H) ⟨⟨none, rfl⟩, rfl⟩ (fun i σ H' _ h => by rw [h.2]; exact sql hv) (fun i x σ H' hx h => ?_) (fun σ H' h => ?_)⟩
  · obtain ⟨⟨y2, rfl⟩, rfl⟩ := h
    have hi : i < Ls.length := by
      rw [← hl]
      exact (List.getElem?_eq_some_iff.mp hx).1
    have hi' := List.getElem?_eq_getElem hi
    obtain ⟨i1, i2⟩ := attOf_lt i (Ls.take i) (by rw [List.length_take]; omega) fun L hL => hok L (List.mem_of_mem_take hL)
    obtain ⟨h1, h2⟩ := hok _ (List.getElem_mem hi)
    have h3 := LayAt.con_pos h1
    have hLx := hat i x _ hx hi'
    generalize Ls[i] = L at *
    have et : attOf (Ls.take (i + 1)) = attOf (Ls.take i) * L.cnt := by rw [List.take_add_one, hi', Option.toList_some, attOf_snoc]
    have wm : CMulW (attOf (Ls.take i)) L.cnt := wide_mul (b := 100) i2 (by omega) (by omega) (by decide) (by omega)
    cases L with
    | con wt n =>
      obtain ⟨p, rfl, hp⟩ := hLx
      refine ⟨_, rfl, _, rfl, _, _, _, _, true, rfl, .ty "tuple", .base (.tup hp), kit_ty (by decide +kernel), true, rfl, iteT ?_⟩
      refine ⟨_, rfl, p, _, 1, _, rfl, rfl, sqt hp, rfl, _, _, rfl, rfl, wm, ⟨some (.ref p), ?_⟩, rfl⟩
      rw [et]
      rfl
    | pol ns =>
      obtain ⟨p, rfl, hp⟩ := hLx
      refine ⟨_, rfl, _, rfl, _, _, _, _, false, rfl, .ty "tuple", .base (.lst hp), kit_ty (by decide +kernel), false, rfl, iteF ?_⟩
      refine ⟨_, rfl, p, _, rfl, .inl (sql hp), _, _, rfl, rfl, _, _, rfl, rfl, by rw [List.length_map]; exact wm, ⟨some (.ref p), ?_⟩, rfl⟩
      rw [et, List.length_map]
      rfl
  · obtain ⟨⟨y2, rfl⟩, rfl⟩ := h
    refine ⟨_, rfl, ?_⟩
    rw [hl, List.take_length]
    exact q

end
end Rn
namespace Rn
open PySem PySem.Spec PyProof.Rows L2
section
variable {P : Program} {w : World} {K : PySem.W.Frag} {mg : Str → Option Value} {base : Heap}
def sp_law_flat (K : PySem.W.Frag) : Sp := fun vs H Q _ => ∃ (a : Addr) (Ls : List Lay), vs = [.ref a] ∧ NestAt H a Ls ∧ (∀ L ∈ Ls, L.ok = true) ∧ Ls.length ≤ 5000 ∧ attOf Ls ≤ 20000 ∧
  ∀ H' r, Same H H' → H r = none → H' r = some (.lst ((flatL Ls).map V.int)) → Q (.ref r) H'
theorem ok_law_flat (T : Txt K mg) : FnOk P w K mg base CX0 2 T.f_law_flat T.d_law_flat ["layers"] (sp_law_flat K) := by
  have G_law_total := ok_law_total (P := P) (w := w) (base := base) T
  have G_law_wait_at := ok_law_wait_at (P := P) (w := w) (base := base) T
  refine T.F_law_flat.ok sc_law_flat (fun vs H Q E h => ?_) (fun cdv A outer s H vs Q E hr h => ?_)
  · obtain ⟨a, Ls, rfl, _⟩ := h
    rfl
  obtain ⟨a, Ls, rfl, hN, hok, hz, hsz, k⟩ := h
  refine ⟨_, (pss_one (ps_ret (pe_lc (own := [("index", 1)]) (g := gName 1) (tt := tYes) rfl sc_law_flat.nd (pi_range2 (by rfl) T.m_range (pa_cons pe_int (pa_cons (pe_call G_law_total hr (by rfl) T.g_law_total T.F_law_total.kp T.b_law_total .nil pass0 (pa_cons (pv 0) pa_nil)) pa_nil))) (blkOk_by (N := ["layers", "index"]) (sc := defScope s_law_flat) (by decide +kernel)) (fun _ _ _ _ _ => (pg_name (i := 1) sc_law_flat.nd rfl (Or.inl rfl))) (fun _ _ _ _ _ => pts_nil) (fun _ _ _ _ _ => (pe_call G_law_wait_at hr (by rfl) T.g_law_wait_at T.F_law_wait_at.kp T.b_law_wait_at .nil pass0 (pa_cons (pv 0) (pa_cons (pv 1) pa_nil))))))), ?_⟩
  have big : ∀ L ∈ Ls, L.ok = true ∧ L.cnt < 2 ^ 100 := fun L hL => ⟨hok L hL, by have := cnt_le hok hL; omega⟩
  have fl := flatL_len _ Ls rfl hok
  refine ⟨_, rfl, a, Ls, rfl, hN, big, hz, _, _, rfl, ⟨by decide, by decide, by omega, by omega⟩, fun D hD => ?_⟩
  refine lc_range (lo := 1) (n := _) (fun i H' => H' D = some (.lst (((flatL Ls).take i).map V.int)) ∧ Same H H') ⟨upd_same, same_new hD⟩ (fun i H2 hi h => ?_) (fun H2 h => ?_)
  · obtain ⟨hd, sm⟩ := h
    have hi' : i < (flatL Ls).length := by omega
    have gi := List.getElem?_eq_getElem hi'
    refine ⟨rfl, _, rfl, _, rfl, a, Ls, i, _, by rw [Int.add_comm]; rfl, hN.same sm, big, gi, ?_⟩
    refine ⟨_, hd, size_lt (by rw [List.length_map, List.length_take]; omega), ?_, same_keep sm hD⟩
    rw [upd_same, List.take_add_one, gi, List.map_append]
    rfl
  · obtain ⟨hd, sm⟩ := h
    refine k H2 D sm hD ?_
    rw [hd, List.take_of_length_le (by omega)]

end
end Rn
namespace Rn
open PySem PySem.Spec PyProof.Rows L2
section
variable {P : Program} {w : World} {K : PySem.W.Frag} {mg : Str → Option Value} {base : Heap}
def sp_law_any_layer (K : PySem.W.Frag) : Sp := fun vs H Q _ => ∃ (a d : Addr) (n : Int), vs = [.ref a] ∧ Src H a d n ∧ n ≤ 1000000000000 ∧
  ∀ H' x L, Adv a d 450 H H' → H x = none → LayAt (hid a d H') (.ref x) L → L.nice → Q (.ref x) H'
theorem ok_law_any_layer (T : Txt K mg) : FnOk P w K mg base CX0 4 T.f_law_any_layer T.d_law_any_layer ["source"] (sp_law_any_layer K) := by
  have G_law_draw := (ok_law_draw (P := P) (w := w) (base := base) T).mono (by decide : 1 ≤ 3)
  have G_law_wait_drawn := (ok_law_wait_drawn (P := P) (w := w) (base := base) T).mono (by decide : 2 ≤ 3)
  have G_law_policy := ok_law_policy (P := P) (w := w) (base := base) T
  refine T.F_law_any_layer.ok sc_law_any_layer (fun vs H Q E h => ?_) (fun cdv A outer s H vs Q E hr h => ?_)
  · obtain ⟨a, d, n, rfl, _⟩ := h
    rfl
  obtain ⟨a, d, n, rfl, hS, hn, q⟩ := h
  refine ⟨_, (pss_cons (ps_set (i := 1) sc_law_any_layer.nd rfl (Or.inl rfl) (pe_ix ix_list (pe_lst (pa_cons pe_int (pa_cons pe_int (pa_cons (pe_op op_add pe_int (pe_call G_law_draw hr (by rfl) T.g_law_draw T.F_law_draw.kp T.b_law_draw .nil pass0 (pa_cons (pv 0) (pa_cons pe_int pa_nil)))) (pa_cons (pe_op op_sub (pe_op op_sub (pe_op op_pow pe_int pe_int) pe_int) (pe_call G_law_draw hr (by rfl) T.g_law_draw T.F_law_draw.kp T.b_law_draw .nil pass0 (pa_cons (pv 0) (pa_cons pe_int pa_nil)))) pa_nil))))) (pe_call G_law_draw hr (by rfl) T.g_law_draw T.F_law_draw.kp T.b_law_draw .nil pass0 (pa_cons (pv 0) (pa_cons pe_int pa_nil))) (fun _ _ => rfl)))
      (pss_one (ps_ret (pe_ix ix_list (pe_lst (pa_cons (pe_call G_law_policy hr (by rfl) T.g_law_policy T.F_law_policy.kp T.b_law_policy .nil pass0 (pa_cons (pv 0) (pa_cons (pe_ix ix_list (pe_lst (pa_cons pe_int (pa_cons pe_int pa_nil))) (pe_call G_law_draw hr (by rfl) T.g_law_draw T.F_law_draw.kp T.b_law_draw .nil pass0 (pa_cons (pv 0) (pa_cons pe_int pa_nil))) (fun _ _ => rfl)) pa_nil))) (pa_cons (pe_tup (pa_cons (pe_call G_law_wait_drawn hr (by rfl) T.g_law_wait_drawn T.F_law_wait_drawn.kp T.b_law_wait_drawn .nil pass0 (pa_cons (pv 0) pa_nil)) (pa_cons (pv 1) pa_nil))) pa_nil))) (pe_call G_law_draw hr (by rfl) T.g_law_draw T.F_law_draw.kp T.b_law_draw .nil pass0 (pa_cons (pv 0) (pa_cons pe_int pa_nil))) (fun _ _ => rfl))))), ?_⟩
  have p20 : (10 : Int) ^ (20 : Int).toNat = 100000000000000000000 := by decide
  -- size
  refine ⟨_, rfl, a, d, n, 60, rfl, hS, by omega, by decide, by decide, fun H1 r1 A1 l1 u1 => ⟨_, _, rfl, rfl, ?_⟩⟩
  have S1 := A1.src n hS
  refine ⟨_, _, rfl, rfl, ⟨by decide, by decide, by decide⟩, _, _, rfl, rfl, _, rfl, a, d, _, 9, rfl, S1, by omega, by decide, by decide, fun H2 r2 A2 l2 u2 => ⟨_, _, rfl, rfl, size_le (by show 4 ≤ 100000; decide), fun o ho => ?_⟩⟩
  have S2 := A2.src _ S1
  have no := S2.new1 ho
  have A3 : Adv a d 2 H (upd H2 o (.lst [.int 1, .int 2, .int (1 + r1), .int (10 ^ (20 : Int).toNat - 1 - r2)])) := ((A1.trans A2 (Int.le_refl _)).trans (Adv.of (same_new ho)) (Int.le_refl _)).mono (by omega)
  have e3 : hid a d (upd H2 o (.lst [.int 1, .int 2, .int (1 + r1), .int (10 ^ (20 : Int).toNat - 1 - r2)])) o = some (.lst (([1, 2, 1 + r1, 10 ^ (20 : Int).toNat - 1 - r2] : List Int).map V.int)) := by
    rw [hid_oth no.1 no.2, upd_same]
    rfl
  generalize upd H2 o (.lst [.int 1, .int 2, .int (1 + r1), .int (10 ^ (20 : Int).toNat - 1 - r2)]) = H3 at *
  have S3 := A3.src _ hS
  refine ⟨_, rfl, a, d, _, 4, rfl, S3, by omega, by decide, by decide, fun H4 r4 A4 l4 u4 => ?_⟩
  obtain ⟨sz, hsz, _, hat⟩ := at_int (ns := [1, 2, 1 + r1, 10 ^ (20 : Int).toNat - 1 - r2]) l4 u4
  have hb : 1 ≤ sz ∧ sz < 1000000000000000000000 := by
    rw [p20] at hsz
    simp only [List.mem_cons, List.not_mem_nil, or_false] at hsz
    omega
  have B4 : Adv a d 3 H H4 := (A3.trans A4 (Int.le_refl _)).mono (by omega)
  have S4 := B4.src _ hS
  refine ⟨o, _, r4, .int sz, rfl, rfl, sql (hid_get (A4.same _ _ e3)).1, hat, ?_⟩
  clear A3 A4 e3 hat S3 S2 S1
  -- [_law_policy(source, [2, 60][..]), (.., size)][..]
  refine ⟨_, rfl, size_le (by show 2 ≤ 100000; decide), fun o5 h5 => ?_⟩
  have n5 := S4.new1 h5
  have A5 : Adv a d 3 H (upd H4 o5 (.lst [.int 2, .int 60])) := (B4.trans (Adv.of (same_new h5)) (Int.le_refl _)).mono (by omega)
  have e5 : hid a d (upd H4 o5 (.lst [.int 2, .int 60])) o5 = some (.lst (([2, 60] : List Int).map V.int)) := by
    rw [hid_oth n5.1 n5.2, upd_same]
    rfl
  generalize upd H4 o5 (.lst [.int 2, .int 60]) = H5 at *
  have S5 := A5.src _ hS
  refine ⟨_, rfl, a, d, _, 2, rfl, S5, by omega, by decide, by decide, fun H6 r6 A6 l6 u6 => ?_⟩
  obtain ⟨m, hm, _, hat6⟩ := at_int (ns := [2, 60]) l6 u6
  have hmb : m = 2 ∨ m = 60 := by simpa using hm
  have B6 : Adv a d 4 H H6 := (A5.trans A6 (Int.le_refl _)).mono (by omega)
  have S6 := B6.src _ hS
  refine ⟨o5, _, r6, .int m, rfl, rfl, sql (hid_get (A6.same _ _ e5)).1, hat6, ?_⟩
  refine ⟨a, d, _, m, rfl, S6, by omega, by omega, by omega, fun H7 p7 ws A7 f7 e7 l7 b7 => ?_⟩
  have B7 : Adv a d 390 H H7 := (B6.trans A7 (Int.le_refl _)).mono (by omega)
  have S7 := B7.src _ hS
  have fp : H p7 = none := B6.free hS f7
  refine ⟨_, rfl, a, d, _, rfl, S7, by omega, fun H8 x A8 l8 u8 => ⟨_, rfl, size_le (by show 2 ≤ 100000; decide), fun t9 h9 => ⟨size_le (by show 2 ≤ 100000; decide), fun o10 h10 => ?_⟩⟩⟩
  have B8 : Adv a d 394 H H8 := (B7.trans A8 (Int.le_refl _)).mono (by omega)
  have S8 := B8.src _ hS
  have n9 := S8.new1 h9
  have ft : H t9 = none := B8.free hS h9
  have s10 := (same_new (o := .tup [.int x, .int sz]) h9).trans (same_new (o := .lst [.ref p7, .ref t9]) h10)
  have A10 : Adv a d 394 H (upd (upd H8 t9 (.tup [.int x, .int sz])) o10 (.lst [.ref p7, .ref t9])) := (B8.trans (Adv.of s10) (Int.le_refl _)).mono (by omega)
  have e7' := hid_same (a := a) (d := d) s10 _ _ (A8.same _ _ e7)
  have et := hid_at (same_new (o := .lst [.ref p7, .ref t9]) h10 _ _ (upd_same (H := H8) (a := t9) (o := .tup [.int x, .int sz]))) n9.1 n9.2
  have e10 := upd_same (H := upd H8 t9 (.tup [.int x, .int sz])) (a := o10) (o := .lst [.ref p7, .ref t9])
  have n10 := (S8.same (same_new (o := .tup [.int x, .int sz]) h9)).new1 h10
  generalize upd (upd H8 t9 (.tup [.int x, .int sz])) o10 (.lst [.ref p7, .ref t9]) = H10 at *
  have S10 := A10.src _ hS
  have e10' := hid_at e10 n10.1 n10.2
  refine ⟨_, rfl, a, d, _, 2, rfl, S10, by omega, by decide, by decide, fun H11 r11 A11 l11 u11 => ?_⟩
  have B11 : Adv a d 450 H H11 := (A10.trans A11 (Int.le_refl _)).mono (by omega)
  have z : r11 = 0 ∨ r11 = 1 := by omega
  rcases z with rfl | rfl
  · exact ⟨o10, _, 0, .ref p7, rfl, rfl, sql (hid_get (A11.same _ _ e10')).1, rfl, q H11 p7 (.pol ws) B11 fp ⟨p7, rfl, A11.same _ _ e7'⟩ (Lay.nice_pol (by omega) b7)⟩
  · exact ⟨o10, _, 1, .ref t9, rfl, rfl, sql (hid_get (A11.same _ _ e10')).1, rfl, q H11 t9 (.con x sz) B11 ft ⟨t9, rfl, A11.same _ _ et⟩ (Lay.nice_con l8 u8 hb.1 hb.2)⟩

end
end Rn
namespace Rn
open PySem PySem.Spec PyProof.Rows L2
section
variable {P : Program} {w : World} {K : PySem.W.Frag} {mg : Str → Option Value} {base : Heap}
def sp_law (K : PySem.W.Frag) : Sp := fun vs H Q _ => ∃ (a : Addr) (ns : List Int), vs = [.ref a] ∧ SqL K H a (ns.map V.int) ∧ ns.length ≤ 63 ∧ ∀ H', Q (.bl true) H'
abbrev lvl_law : Nat := 6
theorem NestV.low {H0 G : Hp} {a d p : Addr} {us : List V} {Ls : List Lay} (hv : NestV H0 (hid a d G) p us Ls) : NestAt G p Ls := by
  obtain ⟨z1, z2, z3, _⟩ := hv
  refine ⟨us, (hid_get z1).1, z2, fun i v L x y => ?_⟩
  have := z3 i v L x y
  cases L with
  | pol ns => obtain ⟨p, e, z⟩ := this; exact ⟨p, e, (hid_get z).1⟩
  | con w n => obtain ⟨p, e, z⟩ := this; exact ⟨p, e, (hid_get z).1⟩
theorem nice_cnt {L : Lay} (h : L.nice) : L.cnt < 2 ^ 100 := by
  obtain ⟨h0, h1⟩ := h
  cases L with
  | pol ns =>
    obtain ⟨h1, _⟩ := h1
    show (ns.length : Int) + 1 < 2 ^ 100
    omega
  | con w n =>
    obtain ⟨_, h1⟩ := h1
    show n < 2 ^ 100
    omega
theorem ok_law (T : Txt K mg) : FnG P w K mg base lvl_law T.f_law T.d_law ["script"] (sp_law K) := by
  have G_law_source := (ok_law_source (P := P) (w := w) (base := base) T).mono (by decide : 1 ≤ 5)
  have G_law_draw := (ok_law_draw (P := P) (w := w) (base := base) T).mono (by decide : 1 ≤ 5)
  have G_law_any_layer := (ok_law_any_layer (P := P) (w := w) (base := base) T).mono (by decide : 4 ≤ 5)
  have G_law_total := (ok_law_total (P := P) (w := w) (base := base) T).mono (by decide : 1 ≤ 5)
  have G_law_same := (ok_law_same (P := P) (w := w) (base := base) T).mono (by decide : 2 ≤ 5)
  have G_attempts := (ok_attempts (P := P) (w := w) (base := base) T).mono (by decide : 4 ≤ 5)
  refine okG T.F_law sc_law (fun cdv A outer s H vs Q E gu hr h => ?_)
  obtain ⟨sa, ns, rfl, hS, hl, q⟩ := h
  refine ⟨_, (pss_cons (ps_set (i := 1) sc_law.nd rfl (Or.inr rfl) (pe_call G_law_source hr (by rfl) T.g_law_source T.F_law_source.kp T.b_law_source .nil pass0 (pa_cons (pv 0) pa_nil)))
      (pss_cons (ps_for PassesOwn.never rfl (pi_range1 (by rfl) T.m_range (pa_cons (pe_op op_add pe_int (pe_callB (call_min2 rfl) (by rfl) T.m_min (by decide +kernel) (pa_cons pe_int (pa_cons (pe_callB call_len_seq (by rfl) T.m_len PySem.boot_len (pa_cons (pv 0) pa_nil)) pa_nil)))) pa_nil)) (pg_name (i := 2) sc_law.nd rfl (Or.inl rfl))
      (pss_one (ps_for PassesOwn.never rfl (pi_range1 (by rfl) T.m_range (pa_cons pe_int pa_nil)) (pg_name (i := 3) sc_law.nd rfl (Or.inl rfl))
      (pss_cons (ps_setLc (i := 4) (own := [("one", 8)]) (g := gName 8) (tt := tYes) rfl sc_law.nd rfl rfl (sw_true rfl rfl rfl (by decide +kernel)) (pi_range1 (by rfl) T.m_range (pa_cons (pe_call G_law_draw hr (by rfl) T.g_law_draw T.F_law_draw.kp T.b_law_draw .nil pass0 (pa_cons (pv 1) (pa_cons pe_int pa_nil))) pa_nil)) (blkOk_by (N := ["script", "source", "k", "turn", "layers", "time", "saved", "due", "one"]) (sc := defScope s_law) (by decide +kernel)) (fun _ _ _ _ _ => (pg_name (i := 8) sc_law.nd rfl (Or.inl rfl))) (fun _ _ _ _ _ => pts_nil) (fun _ _ _ _ _ => (pe_call G_law_any_layer hr (by rfl) T.g_law_any_layer T.F_law_any_layer.kp T.b_law_any_layer .nil pass0 (pa_cons (pv 1) pa_nil))))
      (pss_one (ps_for PassesOwn.never rfl (pi_range1 (by rfl) T.m_range (pa_cons pe_int pa_nil)) (pg_name (i := 5) sc_law.nd rfl (Or.inl rfl))
      (pss_cons (ps_set (i := 6) sc_law.nd rfl (Or.inl rfl) (pe_callB (call_repr gu hr) (by rfl) T.m_repr (by decide +kernel) (pa_cons (pv 4) pa_nil)))
      (pss_cons (ps_set (i := 7) sc_law.nd rfl (Or.inl rfl) (pe_call G_law_total hr (by rfl) T.g_law_total T.F_law_total.kp T.b_law_total .nil pass0 (pa_cons (pv 4) pa_nil)))
      (pss_cons (ps_if (PW.pt (pw_or (pt_not (pt_val (pe_call G_law_same hr (by rfl) T.g_law_same T.F_law_same.kp T.b_law_same .nil pass0 (pa_cons (pe_lst (pa_cons (pe_call G_attempts hr (by rfl) T.g_attempts T.F_attempts.kp T.b_attempts .nil pass0 (pa_cons (pv 4) pa_nil)) (pa_cons (pe_callKw G_attempts hr (by rfl) T.g_attempts T.F_attempts.kp T.kb_attempts pass0 (pk_cons (pv 4) pk_nil)) pa_nil))) (pa_cons (pe_lst (pa_cons (pv 7) (pa_cons (pv 7) pa_nil))) pa_nil))))) (pw_or1 (pt_cmpR op_ne (pe_callB (call_repr gu hr) (by rfl) T.m_repr (by decide +kernel) (pa_cons (pv 4) pa_nil)) (pv 6) (nomark _)))))
      (pss_one (ps_ret pe_bl))
      pss_nil)
      (pss_one (ps_if (pt_cmpR op_lt (pe_callB call_len_seq (by rfl) T.m_len PySem.boot_len (pa_cons (pv 4) pa_nil)) pe_int (nomark _))
      (pss_one (ps_expr (pe_bm PySem.F.plainAttrs_list PySem.F.slot_list_append PySem.F.type_list_append mt_append (pv 4) (pa_cons (pe_call G_law_any_layer hr (by rfl) T.g_law_any_layer T.F_law_any_layer.kp T.b_law_any_layer .nil pass0 (pa_cons (pv 1) pa_nil)) pa_nil))))
      pss_nil)))))))))))
      (pss_one (ps_ret (pe_and (pe_cmpR op_eq (pe_call G_attempts hr (by rfl) T.g_attempts T.F_attempts.kp T.b_attempts .nil pass0 (pa_cons (pe_lst pa_nil) pa_nil)) pe_int (nomark _)) (pe_one (pe_cmpR op_eq (pe_call G_attempts hr (by rfl) T.g_attempts T.F_attempts.kp T.b_attempts .nil pass0 (pa_cons (pe_lst (pa_cons (pe_lst pa_nil) (pa_cons (pe_tup (pa_cons pe_int (pa_cons pe_int pa_nil))) pa_nil))) pa_nil)) pe_int (nomark _)))))))), ?_⟩
  refine ⟨_, rfl, sa, ns, rfl, hS, hl, fun H1 a d s1 _ _ S1 => ?_⟩
  have hlen : (ns.map V.int).length ≤ 63 := by rw [List.length_map]; exact hl
  have hmin : ∀ z : Int, (if z < 8 then z else 8) ≤ 8 := fun z => by split <;> omega
  have hmin0 : 0 ≤ (if (((ns.map V.int).length : Nat) : Int) < 8 then (((ns.map V.int).length : Nat) : Int) else 8) := by split <;> omega
  have hm1 := hmin (((ns.map V.int).length : Nat) : Int)
  refine ⟨_, rfl, sa, _, rfl, .inl (s1.seq hS), _, _, rfl, _, _, rfl, rfl, _, rfl, by omega, by omega, ?_⟩
  refine for_range (lo := 0) (n := (3 + (if (((ns.map V.int).length : Nat) : Int) < 8 then (((ns.map V.int).length : Nat) : Int) else 8)).toNat)
    (fun i σ H' => (∃ y2 y3 y4 y5 y6 y7 y8, σ = [some (.ref sa), some (.ref a), y2, y3, y4, y5, y6, y7, y8]) ∧ Adv a d (50000 * i) H1 H') ⟨⟨_, _, _, _, _, _, _, rfl⟩, Adv.refl⟩ (fun i σ H2 hi h => ?_) (fun σ H2 h => ?_)
  · obtain ⟨⟨y2, y3, y4, y5, y6, y7, y8, rfl⟩, A2⟩ := h
    have hi' : (i : Int) < 11 := by omega
    refine ⟨_, rfl, by decide, by decide, ?_⟩
    refine for_range (lo := 0) (n := 6) (fun j σ H' => (∃ y2 y3 y4 y5 y6 y7 y8, σ = [some (.ref sa), some (.ref a), y2, y3, y4, y5, y6, y7, y8]) ∧ Adv a d (50000 * i + 6000 * j) H1 H')
      ⟨⟨_, _, _, _, _, _, _, rfl⟩, A2.mono (by omega)⟩ (fun j σ H3 hj h => ?_) (fun σ H3 h => ?_)
    · obtain ⟨⟨y2, y3, y4, y5, y6, y7, y8, rfl⟩, A3⟩ := h
      have S3 := A3.src 0 S1
      -- layers = [_law_any_layer(source) for one in range(..)]
      refine ⟨_, rfl, a, d, _, 9, rfl, S3, by omega, by decide, by decide, fun H4 r4 A4 l4 u4 => ⟨_, rfl, by omega, by omega, fun D hD => ?_⟩⟩
      have S4 := A4.src _ S3
      have nD := S4.new1 hD
      have fD : H3 D = none := A4.free S3 hD
      refine lc_range (lo := 0) (n := r4.toNat) (fun m H' => ∃ us Ls, NestV H3 (hid a d H') D us Ls ∧ us.length = m ∧ (∀ L ∈ Ls, L.nice) ∧ Adv a d (1 + 450 * m) H3 H')
        ⟨[], [], NestV.nil (by rw [hid_oth nD.1 nD.2, upd_same]), rfl, (fun _ z => nomatch z), (A4.trans (Adv.of (same_new hD)) (Int.le_refl _)).mono (by omega)⟩ (fun m H5 hm h => ?_) (fun H5 h => ?_)
      · obtain ⟨us, Ls, hv, hul, hn, A5⟩ := h
        have S5 := A5.src _ S3
        refine ⟨rfl, _, rfl, a, d, _, rfl, S5, by omega, fun H6 x L A6 fx hx nx => ?_⟩
        have hv6 := hv.same A6.same
        have fx3 : H3 x = none := A5.free S3 fx
        have xD : x ≠ D := fun z => by
          rw [z, (hid_get hv.1).1] at fx
          cases fx
        refine ⟨us, (hid_get hv6.1).1, size_lt (by omega), us ++ [.ref x], Ls ++ [L], ?_, by rw [List.length_append, hul]; rfl, fun M hM => ?_, ((A5.trans A6 (Int.le_refl _)).mut S3 fD).mono (by omega)⟩
        · rw [hid_oth nD.1 nD.2]
          exact hv6.push hx xD fx3
        · rcases List.mem_append.mp hM with z | z
          · exact hn M z
          · rw [List.mem_singleton.mp z]
            exact nx
      · obtain ⟨us, Ls, hv, hul, hn, A5⟩ := h
        -- for time in range(2)
        refine ⟨_, rfl, by decide, by decide, ?_⟩
        refine for_range (lo := 0) (n := 2) (fun t σ H' => ∃ us Ls y5 y6 y7, σ = [some (.ref sa), some (.ref a), y2, some (.int (0 + (j : Int))), some (.ref D), y5, y6, y7, y8] ∧
            NestV H3 (hid a d H') D us Ls ∧ Ls.length ≤ 8 + t ∧ (∀ L ∈ Ls, L.nice) ∧ Adv a d (4000 + 450 * t) H3 H')
          ⟨us, Ls, _, _, _, rfl, hv, by rw [← hv.2.1, hul]; omega, hn, A5.mono (by omega)⟩ (fun t σ H10 ht h => ?_) (fun σ H10 h => ?_)
        · clear hv hul hn A5 us Ls
          obtain ⟨us, Ls, y5, y6, y7, rfl, hv, ll, nice, A10⟩ := h
          have S10 := A10.src _ S3
          have nest : NestAt H10 D Ls := hv.low
          have good : ∀ L ∈ Ls, L.ok = true ∧ L.cnt < 2 ^ 100 := fun L hL => ⟨(nice L hL).1, nice_cnt (nice L hL)⟩
          have sh := Shw.nest nice ll
          have few : (8 + t) * 4861 ≤ 500000 := by
            have : (8 + t) * 4861 ≤ 10 * 4861 := Nat.mul_le_mul_right _ (by omega)
            omega
          have l50 : Ls.length ≤ 5000 := by omega
          refine ⟨_, rfl, D, _, rfl, dp_nest nest, sh.show1, sh.plain, Nat.le_trans sh.deep (by decide), sh.fits few, ?_⟩
          refine ⟨_, rfl, D, Ls, rfl, nest, good, l50, ?_⟩
          -- _law_same([..], [due, due])
          refine ⟨_, rfl, D, Ls, rfl, nest, good, l50, fun H11 s11 => ?_⟩
          refine ⟨_, rfl, D, Ls, rfl, nest.same s11, good, l50, fun H12 s12 => ⟨size_le (by show 2 ≤ 100000; decide), fun o13 h13 => ?_⟩⟩
          refine ⟨_, rfl, _, rfl, size_le (by show 2 ≤ 100000; decide), fun o14 h14 => ?_⟩
          have t14 := ((s11.trans s12).trans (same_new (o := .lst [.int (attOf Ls), .int (attOf Ls)]) h13)).trans (same_new (o := .lst [.int (attOf Ls), .int (attOf Ls)]) h14)
          refine ⟨o13, o14, [attOf Ls, attOf Ls], [attOf Ls, attOf Ls], rfl, same_new h14 _ _ upd_same, upd_same, by show 2 ≤ 20000; decide, fun H15 s15 => ⟨true, congrArg V.bl (decide_eq_true rfl), iteF ?_⟩⟩
          have t15 := t14.trans s15
          refine ⟨_, rfl, D, _, rfl, dp_nest (nest.same t15), sh.show1, sh.plain, Nat.le_trans sh.deep (by decide), sh.fits few, ?_⟩
          refine ⟨_, rfl, rfl, _, rfl, ne_str rfl ?_⟩
          have A15 : Adv a d (4000 + 450 * t) H3 H15 := (A10.trans (Adv.of t15) (Int.le_refl _)).mono (by omega)
          have S15 := A15.src _ S3
          have hv15 := hv.same (hid_same (a := a) (d := d) t15)
          -- if len(layers) < 8
          refine ⟨_, rfl, D, us, rfl, .inl (sql (hid_get hv15.1).1), _, _, rfl, rfl, _, rfl, ite2 (fun e => ?_) (fun _ => ?_)⟩
          · refine ⟨_, rfl, .inl ⟨rfl, _, sql (hid_get hv15.1).1⟩, ?_⟩
            refine ⟨_, rfl, a, d, _, rfl, S15, by omega, fun H16 x L A16 fx hx nx => ?_⟩
            have hv16 := hv15.same A16.same
            have fx3 : H3 x = none := A15.free S3 fx
            have xD : x ≠ D := fun z => by
              rw [z, (hid_get hv15.1).1] at fx
              cases fx
            refine ⟨D, us, _, rfl, rfl, (hid_get hv16.1).1, size_lt (by rw [hv.2.1]; omega), us ++ [.ref x], Ls ++ [L], _, _, _, rfl, ?_, by rw [List.length_append]; exact Nat.succ_le_succ ll, fun M hM => ?_, ((A15.trans A16 (Int.le_refl _)).mut S3 fD).mono (by omega)⟩
            · rw [hid_oth nD.1 nD.2]
              exact hv16.push hx xD fx3
            · rcases List.mem_append.mp hM with z | z
              · exact nice M z
              · rw [List.mem_singleton.mp z]
                exact nx
          · exact ⟨us, Ls, _, _, _, rfl, hv15, Nat.le_succ_of_le ll, nice, A15.mono (by omega)⟩
        · obtain ⟨us, Ls, y5, y6, y7, rfl, _, _, _, A10⟩ := h
          exact ⟨⟨_, _, _, _, _, _, _, rfl⟩, (A3.trans A10 (Int.le_refl _)).mono (by omega)⟩
    · obtain ⟨⟨y2, y3, y4, y5, y6, y7, y8, rfl⟩, A3⟩ := h
      exact ⟨⟨_, _, _, _, _, _, _, rfl⟩, A3.mono (by omega)⟩
  · clear h
    refine ⟨Nat.zero_le _, fun q1 g1 => ?_⟩
    refine ⟨q1, [], rfl, nest_of upd_same .nil, (fun _ z => nomatch z), by show 0 ≤ 5000; decide, fun H13 s13 => ⟨rfl, true, congrArg V.bl (decide_eq_true rfl), iteT ?_⟩⟩
    refine ⟨Nat.zero_le _, fun q4 g4 => ⟨size_le (by show 2 ≤ 100000; decide), fun q5 g5 => ⟨size_le (by show 2 ≤ 100000; decide), fun q6 g6 => ?_⟩⟩⟩
    have ok2 : ∀ L ∈ [Lay.pol [], .con 0 1], L.ok = true ∧ L.cnt < 2 ^ 100 := by
      intro L hL
      simp only [List.mem_cons, List.not_mem_nil, or_false] at hL
      rcases hL with rfl | rfl
      · exact ⟨rfl, by show (1 : Int) < 2 ^ 100; decide⟩
      · exact ⟨rfl, by show (1 : Int) < 2 ^ 100; decide⟩
    refine ⟨q6, [.pol [], .con 0 1], rfl, nest_of upd_same (.cons ⟨q4, rfl, same_new g6 _ _ (same_new g5 _ _ upd_same)⟩ (.cons ⟨q5, rfl, same_new g6 _ _ upd_same⟩ .nil)), ok2, by show 2 ≤ 5000; decide, fun H14 s14 => ⟨rfl, ?_⟩⟩
    rw [show decide (V.int (attOf [.pol [], .con 0 1]) = V.int 1) = true from decide_eq_true rfl]
    exact q _

end
end Rn
namespace Rn
open PySem PySem.Spec PyProof.Rows L2
theorem all_mk {l : PySem.W.OpenLaw} {w : World} {K : PySem.W.Frag} {h : Heap} {mg : Str → Option Value} {fa f0 f1 f2 f3 f4 f5 f6 f7 f8 f9 f10 f11 f12 f13 f14 : Addr} (X : K.In h) (G : h.Ns mainGlobals mg) (hfa : mg "law" = some (.ref fa))
    {od0 an0 od1 an1 od2 an2 od3 an3 od4 an4 od5 an5 od6 an6 od7 an7 od8 an8 od9 an9 od10 an10 od11 an11 od12 an12 od13 an13 od14 an14 : Option Addr} {sl0 sl1 sl2 sl3 sl4 sl5 sl6 sl7 sl8 sl9 sl10 sl11 sl12 sl13 sl14 : Array (Option Value)} {oc0 kV0 dc0 pm0 cd0 ct0 oc1 kV1 dc1 pm1 cd1 ct1 oc2 kV2 dc2 pm2 cd2 ct2 oc3 kV3 dc3 pm3 cd3 ct3 oc4 kV4 dc4 pm4 cd4 ct4 oc5 kV5 dc5 pm5 cd5 ct5 oc6 kV6 dc6 pm6 cd6 ct6 oc7 kV7 dc7 pm7 cd7 ct7 oc8 kV8 dc8 pm8 cd8 ct8 oc9 kV9 dc9 pm9 cd9 ct9 oc10 kV10 dc10 pm10 cd10 ct10 oc11 kV11 dc11 pm11 cd11 ct11 oc12 kV12 dc12 pm12 cd12 ct12 oc13 kV13 dc13 pm13 cd13 ct13 oc14 kV14 dc14 pm14 cd14 ct14 : Value}
    (a0 : PySem.W.nsIn K mainGlobals "first_negative" = some (some (.ref f0))) (l0 : K.lookup f0 = some ⟨oc0, od0, .func (PySem.W.fnOf "first_negative" "first_negative" (defArgs s_first_negative) (defBody s_first_negative) (defScope s_first_negative) .none kV0 dc0 pm0 an0 cd0 ct0), sl0⟩) (c0 : PySem.W.codeIn K cd0 "first_negative" = true) (k0 : PySem.W.keepIn K (.ref f0) = true)
    (a1 : PySem.W.nsIn K mainGlobals "is_valid_layer" = some (some (.ref f1))) (l1 : K.lookup f1 = some ⟨oc1, od1, .func (PySem.W.fnOf "is_valid_layer" "is_valid_layer" (defArgs s_is_valid_layer) (defBody s_is_valid_layer) (defScope s_is_valid_layer) .none kV1 dc1 pm1 an1 cd1 ct1), sl1⟩) (c1 : PySem.W.codeIn K cd1 "is_valid_layer" = true) (k1 : PySem.W.keepIn K (.ref f1) = true)
    (a2 : PySem.W.nsIn K mainGlobals "check_nesting" = some (some (.ref f2))) (l2 : K.lookup f2 = some ⟨oc2, od2, .func (PySem.W.fnOf "check_nesting" "check_nesting" (defArgs s_check_nesting) (defBody s_check_nesting) (defScope s_check_nesting) .none kV2 dc2 pm2 an2 cd2 ct2), sl2⟩) (c2 : PySem.W.codeIn K cd2 "check_nesting" = true) (k2 : PySem.W.keepIn K (.ref f2) = true)
    (a3 : PySem.W.nsIn K mainGlobals "layer_attempts" = some (some (.ref f3))) (l3 : K.lookup f3 = some ⟨oc3, od3, .func (PySem.W.fnOf "layer_attempts" "layer_attempts" (defArgs s_layer_attempts) (defBody s_layer_attempts) (defScope s_layer_attempts) .none kV3 dc3 pm3 an3 cd3 ct3), sl3⟩) (c3 : PySem.W.codeIn K cd3 "layer_attempts" = true) (k3 : PySem.W.keepIn K (.ref f3) = true)
    (a4 : PySem.W.nsIn K mainGlobals "attempts" = some (some (.ref f4))) (l4 : K.lookup f4 = some ⟨oc4, od4, .func (PySem.W.fnOf "attempts" "attempts" (defArgs s_attempts) (defBody s_attempts) (defScope s_attempts) .none kV4 dc4 pm4 an4 cd4 ct4), sl4⟩) (c4 : PySem.W.codeIn K cd4 "attempts" = true) (k4 : PySem.W.keepIn K (.ref f4) = true)
    (a5 : PySem.W.nsIn K mainGlobals "_law_source" = some (some (.ref f5))) (l5 : K.lookup f5 = some ⟨oc5, od5, .func (PySem.W.fnOf "_law_source" "_law_source" (defArgs s_law_source) (defBody s_law_source) (defScope s_law_source) .none kV5 dc5 pm5 an5 cd5 ct5), sl5⟩) (c5 : PySem.W.codeIn K cd5 "_law_source" = true) (k5 : PySem.W.keepIn K (.ref f5) = true)
    (a6 : PySem.W.nsIn K mainGlobals "_law_draw" = some (some (.ref f6))) (l6 : K.lookup f6 = some ⟨oc6, od6, .func (PySem.W.fnOf "_law_draw" "_law_draw" (defArgs s_law_draw) (defBody s_law_draw) (defScope s_law_draw) .none kV6 dc6 pm6 an6 cd6 ct6), sl6⟩) (c6 : PySem.W.codeIn K cd6 "_law_draw" = true) (k6 : PySem.W.keepIn K (.ref f6) = true)
    (a7 : PySem.W.nsIn K mainGlobals "_law_same" = some (some (.ref f7))) (l7 : K.lookup f7 = some ⟨oc7, od7, .func (PySem.W.fnOf "_law_same" "_law_same" (defArgs s_law_same) (defBody s_law_same) (defScope s_law_same) .none kV7 dc7 pm7 an7 cd7 ct7), sl7⟩) (c7 : PySem.W.codeIn K cd7 "_law_same" = true) (k7 : PySem.W.keepIn K (.ref f7) = true)
    (a8 : PySem.W.nsIn K mainGlobals "_law_wait_drawn" = some (some (.ref f8))) (l8 : K.lookup f8 = some ⟨oc8, od8, .func (PySem.W.fnOf "_law_wait_drawn" "_law_wait_drawn" (defArgs s_law_wait_drawn) (defBody s_law_wait_drawn) (defScope s_law_wait_drawn) .none kV8 dc8 pm8 an8 cd8 ct8), sl8⟩) (c8 : PySem.W.codeIn K cd8 "_law_wait_drawn" = true) (k8 : PySem.W.keepIn K (.ref f8) = true)
    (a9 : PySem.W.nsIn K mainGlobals "_law_policy" = some (some (.ref f9))) (l9 : K.lookup f9 = some ⟨oc9, od9, .func (PySem.W.fnOf "_law_policy" "_law_policy" (defArgs s_law_policy) (defBody s_law_policy) (defScope s_law_policy) .none kV9 dc9 pm9 an9 cd9 ct9), sl9⟩) (c9 : PySem.W.codeIn K cd9 "_law_policy" = true) (k9 : PySem.W.keepIn K (.ref f9) = true)
    (a10 : PySem.W.nsIn K mainGlobals "_law_wait_at" = some (some (.ref f10))) (l10 : K.lookup f10 = some ⟨oc10, od10, .func (PySem.W.fnOf "_law_wait_at" "_law_wait_at" (defArgs s_law_wait_at) (defBody s_law_wait_at) (defScope s_law_wait_at) .none kV10 dc10 pm10 an10 cd10 ct10), sl10⟩) (c10 : PySem.W.codeIn K cd10 "_law_wait_at" = true) (k10 : PySem.W.keepIn K (.ref f10) = true)
    (a11 : PySem.W.nsIn K mainGlobals "_law_total" = some (some (.ref f11))) (l11 : K.lookup f11 = some ⟨oc11, od11, .func (PySem.W.fnOf "_law_total" "_law_total" (defArgs s_law_total) (defBody s_law_total) (defScope s_law_total) .none kV11 dc11 pm11 an11 cd11 ct11), sl11⟩) (c11 : PySem.W.codeIn K cd11 "_law_total" = true) (k11 : PySem.W.keepIn K (.ref f11) = true)
    (a12 : PySem.W.nsIn K mainGlobals "_law_flat" = some (some (.ref f12))) (l12 : K.lookup f12 = some ⟨oc12, od12, .func (PySem.W.fnOf "_law_flat" "_law_flat" (defArgs s_law_flat) (defBody s_law_flat) (defScope s_law_flat) .none kV12 dc12 pm12 an12 cd12 ct12), sl12⟩) (c12 : PySem.W.codeIn K cd12 "_law_flat" = true) (k12 : PySem.W.keepIn K (.ref f12) = true)
    (a13 : PySem.W.nsIn K mainGlobals "_law_any_layer" = some (some (.ref f13))) (l13 : K.lookup f13 = some ⟨oc13, od13, .func (PySem.W.fnOf "_law_any_layer" "_law_any_layer" (defArgs s_law_any_layer) (defBody s_law_any_layer) (defScope s_law_any_layer) .none kV13 dc13 pm13 an13 cd13 ct13), sl13⟩) (c13 : PySem.W.codeIn K cd13 "_law_any_layer" = true) (k13 : PySem.W.keepIn K (.ref f13) = true)
    (a14 : PySem.W.nsIn K mainGlobals "law" = some (some (.ref f14))) (l14 : K.lookup f14 = some ⟨oc14, od14, .func (PySem.W.fnOf "law" "law" (defArgs s_law) (defBody s_law) (defScope s_law) .none kV14 dc14 pm14 an14 cd14 ct14), sl14⟩) (c14 : PySem.W.codeIn K cd14 "law" = true) (k14 : PySem.W.keepIn K (.ref f14) = true)
    (z0 : PySem.W.nsIn K mainGlobals "bool" = some none)
    (z1 : PySem.W.nsIn K mainGlobals "enumerate" = some none)
    (z2 : PySem.W.nsIn K mainGlobals "int" = some none)
    (z3 : PySem.W.nsIn K mainGlobals "isinstance" = some none)
    (z4 : PySem.W.nsIn K mainGlobals "len" = some none)
    (z5 : PySem.W.nsIn K mainGlobals "list" = some none)
    (z6 : PySem.W.nsIn K mainGlobals "max" = some none)
    (z7 : PySem.W.nsIn K mainGlobals "min" = some none)
    (z8 : PySem.W.nsIn K mainGlobals "range" = some none)
    (z9 : PySem.W.nsIn K mainGlobals "repr" = some none)
    (z10 : PySem.W.nsIn K mainGlobals "str" = some none)
    (z11 : PySem.W.nsIn K mainGlobals "tuple" = some none)
    : ∃ fd : FuncData, (∀ (s : Shared) (v : Value), BindsTo s fd ⟨[v], []⟩ [("script", v)]) ∧ ∀ base : Heap, K.In base → base.Ns mainGlobals mg → FnG l.prog w K mg base lvl_law fa fd ["script"] (sp_law K) := by
  have e := hfa.symm.trans (PySem.W.mg_of X G a14)
  cases e
  have F0 := fun_mk (st := s_first_negative) l0 c0 k0
  have F1 := fun_mk (st := s_is_valid_layer) l1 c1 k1
  have F2 := fun_mk (st := s_check_nesting) l2 c2 k2
  have F3 := fun_mk (st := s_layer_attempts) l3 c3 k3
  have F4 := fun_mk (st := s_attempts) l4 c4 k4
  have F5 := fun_mk (st := s_law_source) l5 c5 k5
  have F6 := fun_mk (st := s_law_draw) l6 c6 k6
  have F7 := fun_mk (st := s_law_same) l7 c7 k7
  have F8 := fun_mk (st := s_law_wait_drawn) l8 c8 k8
  have F9 := fun_mk (st := s_law_policy) l9 c9 k9
  have F10 := fun_mk (st := s_law_wait_at) l10 c10 k10
  have F11 := fun_mk (st := s_law_total) l11 c11 k11
  have F12 := fun_mk (st := s_law_flat) l12 c12 k12
  have F13 := fun_mk (st := s_law_any_layer) l13 c13 k13
  have F14 := fun_mk (st := s_law) l14 c14 k14
  have b0 := F0.binds (ps := ["waits"]) fun _ _ _ _ _ _ us hl => match us, hl with | [_], _ => rfl
  have b1 := F1.binds (ps := ["layer"]) fun _ _ _ _ _ _ us hl => match us, hl with | [_], _ => rfl
  have b2 := F2.binds (ps := ["nesting"]) fun _ _ _ _ _ _ us hl => match us, hl with | [_], _ => rfl
  have b3 := F3.binds (ps := ["layer"]) fun _ _ _ _ _ _ us hl => match us, hl with | [_], _ => rfl
  have b4 := F4.binds (ps := ["nesting"]) fun _ _ _ _ _ _ us hl => match us, hl with | [_], _ => rfl
  have b5 := F5.binds (ps := ["script"]) fun _ _ _ _ _ _ us hl => match us, hl with | [_], _ => rfl
  have b6 := F6.binds (ps := ["source", "many"]) fun _ _ _ _ _ _ us hl => match us, hl with | [_, _], _ => rfl
  have b7 := F7.binds (ps := ["found", "wanted"]) fun _ _ _ _ _ _ us hl => match us, hl with | [_, _], _ => rfl
  have b8 := F8.binds (ps := ["source"]) fun _ _ _ _ _ _ us hl => match us, hl with | [_], _ => rfl
  have b9 := F9.binds (ps := ["source", "most"]) fun _ _ _ _ _ _ us hl => match us, hl with | [_, _], _ => rfl
  have b10 := F10.binds (ps := ["layers", "index"]) fun _ _ _ _ _ _ us hl => match us, hl with | [_, _], _ => rfl
  have b11 := F11.binds (ps := ["layers"]) fun _ _ _ _ _ _ us hl => match us, hl with | [_], _ => rfl
  have b12 := F12.binds (ps := ["layers"]) fun _ _ _ _ _ _ us hl => match us, hl with | [_], _ => rfl
  have b13 := F13.binds (ps := ["source"]) fun _ _ _ _ _ _ us hl => match us, hl with | [_], _ => rfl
  have b14 := F14.binds (ps := ["script"]) fun _ _ _ _ _ _ us hl => match us, hl with | [_], _ => rfl
  have T : Txt K mg := ⟨f0, _, F0, PySem.W.mg_of X G a0, b0, f1, _, F1, PySem.W.mg_of X G a1, b1, f2, _, F2, PySem.W.mg_of X G a2, b2, f3, _, F3, PySem.W.mg_of X G a3, b3, f4, _, F4, PySem.W.mg_of X G a4, b4, f5, _, F5, PySem.W.mg_of X G a5, b5, f6, _, F6, PySem.W.mg_of X G a6, b6, f7, _, F7, PySem.W.mg_of X G a7, b7, f8, _, F8, PySem.W.mg_of X G a8, b8, f9, _, F9, PySem.W.mg_of X G a9, b9, f10, _, F10, PySem.W.mg_of X G a10, b10, f11, _, F11, PySem.W.mg_of X G a11, b11, f12, _, F12, PySem.W.mg_of X G a12, b12, f13, _, F13, PySem.W.mg_of X G a13, b13, fa, _, F14, PySem.W.mg_of X G a14, b14, kb1 fun s a => .of_eq rfl, PySem.W.mg_none_of X G z0, PySem.W.mg_none_of X G z1, PySem.W.mg_none_of X G z2, PySem.W.mg_none_of X G z3, PySem.W.mg_none_of X G z4, PySem.W.mg_none_of X G z5, PySem.W.mg_none_of X G z6, PySem.W.mg_none_of X G z7, PySem.W.mg_none_of X G z8, PySem.W.mg_none_of X G z9, PySem.W.mg_none_of X G z10, PySem.W.mg_none_of X G z11⟩
  exact ⟨_, fun s v => .of_eq rfl, fun base _ _ => ok_law ⟨f0, _, F0, PySem.W.mg_of X G a0, b0, f1, _, F1, PySem.W.mg_of X G a1, b1, f2, _, F2, PySem.W.mg_of X G a2, b2, f3, _, F3, PySem.W.mg_of X G a3, b3, f4, _, F4, PySem.W.mg_of X G a4, b4, f5, _, F5, PySem.W.mg_of X G a5, b5, f6, _, F6, PySem.W.mg_of X G a6, b6, f7, _, F7, PySem.W.mg_of X G a7, b7, f8, _, F8, PySem.W.mg_of X G a8, b8, f9, _, F9, PySem.W.mg_of X G a9, b9, f10, _, F10, PySem.W.mg_of X G a10, b10, f11, _, F11, PySem.W.mg_of X G a11, b11, f12, _, F12, PySem.W.mg_of X G a12, b12, f13, _, F13, PySem.W.mg_of X G a13, b13, fa, _, F14, PySem.W.mg_of X G a14, b14, kb1 fun s a => .of_eq rfl, PySem.W.mg_none_of X G z0, PySem.W.mg_none_of X G z1, PySem.W.mg_none_of X G z2, PySem.W.mg_none_of X G z3, PySem.W.mg_none_of X G z4, PySem.W.mg_none_of X G z5, PySem.W.mg_none_of X G z6, PySem.W.mg_none_of X G z7, PySem.W.mg_none_of X G z8, PySem.W.mg_none_of X G z9, PySem.W.mg_none_of X G z10, PySem.W.mg_none_of X G z11⟩⟩
end Rn
open PySem PySem.W PyProof.Rows
set_option maxRecDepth 100000 in
set_option maxHeartbeats 0 in
theorem PySem.Challenge.cw_retrynest_k03_numbers_of_attempts_holds : PySem.Challenge.rw_retrynest_k03_numbers_of_attempts.Holds := by
  w_on; o_law; k_head; (case hw => w_witness2)
  k_fill
  refine Rn.walk_G (l := PySem.Challenge.rw_retrynest_k03_numbers_of_attempts) (k := Rn.lvl_law) (sp := Rn.sp_law) rfl rfl ⟨rfl, by decide, by decide⟩ (fun w h Y => PySem.W.kIn_of Y) ?F (fun _ _ a ns hl hS => ⟨a, ns, rfl, hS, hl, fun _ => rfl⟩)
  case F =>
    intro w mg fa h KX G hmg
    refine' Rn.all_mk KX G hmg ?a0 ?l0 ?c0 ?k0 ?a1 ?l1 ?c1 ?k1 ?a2 ?l2 ?c2 ?k2 ?a3 ?l3 ?c3 ?k3 ?a4 ?l4 ?c4 ?k4 ?a5 ?l5 ?c5 ?k5 ?a6 ?l6 ?c6 ?k6 ?a7 ?l7 ?c7 ?k7 ?a8 ?l8 ?c8 ?k8 ?a9 ?l9 ?c9 ?k9 ?a10 ?l10 ?c10 ?k10 ?a11 ?l11 ?c11 ?k11 ?a12 ?l12 ?c12 ?k12 ?a13 ?l13 ?c13 ?k13 ?a14 ?l14 ?c14 ?k14 ?z0 ?z1 ?z2 ?z3 ?z4 ?z5 ?z6 ?z7 ?z8 ?z9 ?z10 ?z11
    (case a0 => k_is); (case l0 => k_is); (case c0 => k_is); (case k0 => k_is); (case a1 => k_is); (case l1 => k_is); (case c1 => k_is); (case k1 => k_is); (case a2 => k_is)
    (case l2 => k_is); (case c2 => k_is); (case k2 => k_is); (case a3 => k_is); (case l3 => k_is); (case c3 => k_is); (case k3 => k_is); (case a4 => k_is); (case l4 => k_is)
    (case c4 => k_is); (case k4 => k_is); (case a5 => k_is); (case l5 => k_is); (case c5 => k_is); (case k5 => k_is); (case a6 => k_is); (case l6 => k_is); (case c6 => k_is)
    (case k6 => k_is); (case a7 => k_is); (case l7 => k_is); (case c7 => k_is); (case k7 => k_is); (case a8 => k_is); (case l8 => k_is); (case c8 => k_is); (case k8 => k_is)
    (case a9 => k_is); (case l9 => k_is); (case c9 => k_is); (case k9 => k_is); (case a10 => k_is); (case l10 => k_is); (case c10 => k_is); (case k10 => k_is); (case a11 => k_is)
    (case l11 => k_is); (case c11 => k_is); (case k11 => k_is); (case a12 => k_is); (case l12 => k_is); (case c12 => k_is); (case k12 => k_is); (case a13 => k_is)
    (case l13 => k_is); (case c13 => k_is); (case k13 => k_is); (case a14 => k_is); (case l14 => k_is); (case c14 => k_is); (case k14 => k_is); (case z0 => k_is)
    (case z1 => k_is); (case z2 => k_is); (case z3 => k_is); (case z4 => k_is); (case z5 => k_is); (case z6 => k_is); (case z7 => k_is); (case z8 => k_is); (case z9 => k_is)
    (case z10 => k_is); (case z11 => k_is)
