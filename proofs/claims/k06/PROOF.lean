import PyProof.Rows.All
import Wide.All
import OpenK.AllK
import Wide.FinOn
import HandS.ForMost
import HandS.Wide
import HandS.IsInst
import HandS.NoneIn
import HandS.Evl
import HandS.Style
import PySem.Challenge.RW_retrynest_k06_whole_constant_layers
set_option Elab.async false
set_option linter.all false
set_option maxRecDepth 100000
set_option maxHeartbeats 4000000
namespace Rn
open PySem PySem.Spec PyProof.Rows L2

/-! ## heaps -/
theorem same_new {H : Hp} {p : Addr} {o : HO} (h : H p = none) : Same H (upd H p o) := fun b x e => by
  rw [upd_ne (ne_of_none e h)]
  exact e
theorem same_keep {H H' : Hp} {p : Addr} {o : HO} (e : Same H H') (h : H p = none) : Same H (upd H' p o) := fun b x q => by
  rw [upd_ne (ne_of_none q h)]
  exact e b x q
theorem sql {K : PySem.W.Frag} {H : Hp} {p : Addr} {xs : List V} (h : H p = some (.lst xs)) : SqL K H p xs := .inl (.inl h)
theorem sqt {K : PySem.W.Frag} {H : Hp} {p : Addr} {xs : List V} (h : H p = some (.tup xs)) : SqT K H p xs := .inl (.inl h)
/-- the source's two objects hidden -/
def hid (a d : Addr) (H : Hp) : Hp := fun b => if b = a ∨ b = d then none else H b
theorem hid_get {a d : Addr} {H : Hp} {b : Addr} {o : HO} (h : hid a d H b = some o) : H b = some o ∧ b ≠ a ∧ b ≠ d := by
  unfold hid at h
  by_cases e : b = a ∨ b = d
  · rw [if_pos e] at h
    cases h
  · rw [if_neg e] at h
    exact ⟨h, fun z => e (.inl z), fun z => e (.inr z)⟩
theorem hid_at {a d : Addr} {H : Hp} {b : Addr} {o : HO} (h : H b = some o) (ha : b ≠ a) (hd : b ≠ d) : hid a d H b = some o := by
  unfold hid
  rw [if_neg (fun z => z.elim ha hd)]
  exact h
theorem hid_none {a d : Addr} {H : Hp} {b : Addr} (h : H b = none) : hid a d H b = none := by
  unfold hid
  split
  · rfl
  · exact h
theorem hid_same {a d : Addr} {H H' : Hp} (e : Same H H') : Same (hid a d H) (hid a d H') := fun b o h => by
  obtain ⟨h1, h2, h3⟩ := hid_get h
  exact hid_at (e _ _ h1) h2 h3
theorem hid_src1 {a d : Addr} {H : Hp} {o : HO} : hid a d (upd H a o) = hid a d H := by
  funext b
  unfold hid
  by_cases e : b = a ∨ b = d
  · rw [if_pos e, if_pos e]
  · rw [if_neg e, if_neg e, upd_ne fun z => e (.inl z)]
theorem hid_src2 {a d : Addr} {H : Hp} {o : HO} : hid a d (upd H d o) = hid a d H := by
  funext b
  unfold hid
  by_cases e : b = a ∨ b = d
  · rw [if_pos e, if_pos e]
  · rw [if_neg e, if_neg e, upd_ne fun z => e (.inr z)]
theorem hid_oth {a d : Addr} {H : Hp} {p : Addr} {o : HO} (ha : p ≠ a) (hd : p ≠ d) : hid a d (upd H p o) = upd (hid a d H) p o := by
  funext b
  by_cases e : b = p
  · rw [e, upd_same]
    exact hid_at upd_same ha hd
  · rw [upd_ne e]
    unfold hid
    rw [upd_ne e]

/-! ## the source of draws: a list at a, its digits at d; at most n draws were mixed -/
def Src (H : Hp) (a d : Addr) (n : Int) : Prop := ∃ (cur mix cnt : Int) (ds : List Int), H a = some (.lst [.ref d, .int cur, .int mix, .int cnt]) ∧ H d = some (.lst (ds.map V.int)) ∧
  0 ≤ mix ∧ mix < 2305843009213693951 ∧ 0 ≤ cnt ∧ cnt ≤ n
theorem Src.ne {H : Hp} {a d : Addr} {n : Int} (s : Src H a d n) : a ≠ d := by
  obtain ⟨cur, mix, cnt, ds, h1, h2, _⟩ := s
  intro e
  rw [e] at h1
  rw [h1] at h2
  cases ds with
  | nil => cases h2
  | cons x r =>
    have z := Option.some.inj h2
    injection z with z
    rw [List.map_cons] at z
    injection z with z1 z2
    cases z1
theorem Src.lst1 {H : Hp} {a d : Addr} {n : Int} (s : Src H a d n) : ∃ o, H a = some o := let ⟨_, _, _, _, h, _⟩ := s; ⟨_, h⟩
theorem Src.lst2 {H : Hp} {a d : Addr} {n : Int} (s : Src H a d n) : ∃ o, H d = some o := let ⟨_, _, _, _, _, h, _⟩ := s; ⟨_, h⟩
theorem Src.same {H H' : Hp} {a d : Addr} {n : Int} (s : Src H a d n) (e : Same H H') : Src H' a d n := by
  obtain ⟨cur, mix, cnt, ds, h1, h2, h3⟩ := s
  exact ⟨cur, mix, cnt, ds, e _ _ h1, e _ _ h2, h3⟩
theorem Src.keep {H : Hp} {a d p : Addr} {o : HO} {n : Int} (s : Src H a d n) (ha : p ≠ a) (hd : p ≠ d) : Src (upd H p o) a d n := by
  obtain ⟨cur, mix, cnt, ds, h1, h2, h3⟩ := s
  exact ⟨cur, mix, cnt, ds, by rw [upd_ne ha.symm]; exact h1, by rw [upd_ne hd.symm]; exact h2, h3⟩
theorem Src.mono {H : Hp} {a d : Addr} {n m : Int} (s : Src H a d n) (h : n ≤ m) : Src H a d m := by
  obtain ⟨cur, mix, cnt, ds, h1, h2, h3, h4, h5, h6⟩ := s
  exact ⟨cur, mix, cnt, ds, h1, h2, h3, h4, h5, Int.le_trans h6 h⟩
theorem Src.new1 {H : Hp} {a d p : Addr} {n : Int} (s : Src H a d n) (h : H p = none) : p ≠ a ∧ p ≠ d := by
  obtain ⟨o, h1⟩ := s.lst1
  obtain ⟨u, h2⟩ := s.lst2
  exact ⟨(ne_of_none h1 h).symm, (ne_of_none h2 h).symm⟩

/-- what a call that draws at most c times does to the heap: all but the source stays, the source is a source -/
structure Adv (a d : Addr) (c : Int) (H H' : Hp) : Prop where
  same : Same (hid a d H) (hid a d H')
  src : ∀ n, Src H a d n → Src H' a d (n + c)
theorem Adv.refl {a d : Addr} {H : Hp} : Adv a d 0 H H := ⟨Same.refl _, fun n s => s.mono (by omega)⟩
theorem Adv.trans {a d : Addr} {c c' e : Int} {H H1 H2 : Hp} (x : Adv a d c H H1) (y : Adv a d c' H1 H2) (h : c + c' ≤ e) : Adv a d e H H2 :=
  ⟨x.same.trans y.same, fun n s => (y.src _ (x.src _ s)).mono (by omega)⟩
theorem Adv.mono {a d : Addr} {c e : Int} {H H1 : Hp} (x : Adv a d c H H1) (h : c ≤ e) : Adv a d e H H1 := ⟨x.same, fun n s => (x.src _ s).mono (by omega)⟩
theorem Adv.of {a d : Addr} {H H' : Hp} (e : Same H H') : Adv a d 0 H H' := ⟨hid_same e, fun n s => (s.same e).mono (by omega)⟩
/-- .. where a new object of the way has changed -/
theorem Adv.mut {a d : Addr} {c : Int} {H H' : Hp} {p : Addr} {o : HO} {n : Int} (x : Adv a d c H H') (s : Src H a d n) (h : H p = none) : Adv a d c H (upd H' p o) := by
  obtain ⟨h1, h2⟩ := s.new1 h
  refine ⟨?_, fun m t => (x.src m t).keep h1 h2⟩
  rw [hid_oth h1 h2]
  exact same_keep x.same (hid_none h)
/-- free behind is free ahead -/
theorem Adv.free {a d p : Addr} {c n : Int} {H H' : Hp} (x : Adv a d c H H') (s : Src H a d n) (h : H' p = none) : H p = none := by
  have s' := x.src n s
  obtain ⟨h1, h2⟩ := s'.new1 h
  cases q : H p with
  | none => rfl
  | some o =>
    have e := (hid_get (x.same p o (hid_at q h1 h2))).1
    rw [h] at e
    cases e
theorem Adv.made {a d : Addr} {c cur mix cnt cur' cnt' : Int} {H H' : Hp} {ds' : List Int} (e : Same (hid a d H) (hid a d H')) (h : H a = some (.lst [.ref d, .int cur, .int mix, .int cnt]))
    (h' : H' a = some (.lst [.ref d, .int cur', .int mix, .int cnt'])) (hd' : H' d = some (.lst (ds'.map V.int))) (h0 : cnt ≤ cnt') (h1 : cnt' ≤ cnt + c) : Adv a d c H H' := by
  refine ⟨e, fun n s => ?_⟩
  obtain ⟨cu, mi, cn, ds, a1, a2, a3, a4, a5, a6⟩ := s
  rw [h] at a1
  cases a1
  exact ⟨cur', mix, cnt', ds', h', hd', a3, a4, by omega, by omega⟩
theorem small64 {x b : Int} (h0 : 0 ≤ x) (h1 : x < b) (hb : b ≤ 18446744073709551616) : x.natAbs < 2 ^ 64 := by omega

/-! ## ints in lists -/
theorem map_get {ns : List Int} {i : Nat} {x : Int} (h : ns[i]? = some x) : (ns.map V.int)[i]? = some (.int x) := by
  rw [List.getElem?_map, h]
  rfl
theorem at_int {ns : List Int} {i : Int} (h0 : 0 ≤ i) (h : i < ns.length) : ∃ x, x ∈ ns ∧ ns[i.toNat]? = some x ∧ atI (ns.map V.int) i = some (.int x) := by
  obtain ⟨j, rfl⟩ : ∃ j : Nat, i = (j : Int) := ⟨i.toNat, by omega⟩
  have hi : j < ns.length := by omega
  exact ⟨ns[j], List.getElem_mem hi, List.getElem?_eq_getElem hi, atI_nat (map_get (List.getElem?_eq_getElem hi))⟩
theorem at_val {xs : List V} {i : Int} (h0 : 0 ≤ i) (h : i < xs.length) : ∃ x, x ∈ xs ∧ xs[i.toNat]? = some x ∧ atI xs i = some x := by
  obtain ⟨j, rfl⟩ : ∃ j : Nat, i = (j : Int) := ⟨i.toNat, by omega⟩
  have hi : j < xs.length := by omega
  exact ⟨xs[j], List.getElem_mem hi, List.getElem?_eq_getElem hi, atI_nat (List.getElem?_eq_getElem hi)⟩
theorem size_le {n : Nat} (h : n ≤ 100000) : n ≤ sizeLine := Nat.le_trans h (by decide)
theorem size_lt {n : Nat} (h : n < 100000) : n < sizeLine := Nat.lt_of_lt_of_le h (by decide)
mutual
theorem eqv_refl' : ∀ d : PyData, d.canLay0 = true → PyData.eqv d d = true
  | .none, _ => rfl
  | .bool b, _ => by simp [PyData.eqv]
  | .int i, _ => by simp [PyData.eqv]
  | .str x, _ => by simp [PyData.eqv]
  | .list xs, h => by
    simp only [PyData.eqv]
    exact eqvAll_refl' xs (by simpa [PyData.canLay0] using h)
  | .tuple xs, h => by
    simp only [PyData.eqv]
    exact eqvAll_refl' xs (by simpa [PyData.canLay0] using h)
  | .dict _, h => by simp [PyData.canLay0] at h
theorem eqvAll_refl' : ∀ ds : List PyData, PyData.canLayAll0 ds = true → PyData.eqvAll ds ds = true
  | [], _ => by simp [PyData.eqvAll]
  | d :: ds, h => by
    have h' : d.canLay0 = true ∧ PyData.canLayAll0 ds = true := by simpa [PyData.canLayAll0] using h
    simp only [PyData.eqvAll, Bool.and_eq_true]
    exact ⟨eqv_refl' d h'.1, eqvAll_refl' ds h'.2⟩
end
/-- a list of ints as data -/
def dInts (ns : List Int) : PyData := .list (ns.map .int)
theorem eqvAll_ints : ∀ ns ms : List Int, PyData.eqvAll (ns.map .int) (ms.map .int) = decide (ns = ms)
  | [], [] => by simp [PyData.eqvAll]
  | [], _ :: _ => by simp [PyData.eqvAll]
  | _ :: _, [] => by simp [PyData.eqvAll]
  | n :: ns, m :: ms => by
    have ih := eqvAll_ints ns ms
    simp only [List.map_cons, PyData.eqvAll, PyData.eqv, ih]
    by_cases h1 : n = m <;> by_cases h2 : ns = ms <;> simp [h1, h2]
theorem eqv_ints (ns ms : List Int) : PyData.eqv (dInts ns) (dInts ms) = decide (ns = ms) := by
  unfold dInts
  simp only [PyData.eqv]
  exact eqvAll_ints ns ms
theorem canLay_ints : ∀ ns : List Int, PyData.canLayAll0 (ns.map .int) = true
  | [] => by simp [PyData.canLayAll0]
  | n :: ns => by simp [PyData.canLayAll0, PyData.canLay0, canLay_ints ns]
theorem depth_ints : ∀ ns : List Int, PyData.depthAll (ns.map .int) ≤ 1
  | [] => by simp [PyData.depthAll]
  | n :: ns => by
    have := depth_ints ns
    simp only [List.map_cons, PyData.depthAll, PyData.depth]
    omega
theorem shaped_ints (ns : List Int) : SeqAt.shaped (dInts ns) = true := by
  have h := depth_ints ns
  unfold SeqAt.shaped
  rw [Bool.and_eq_true]
  refine ⟨?_, decide_eq_true ?_⟩
  · unfold dInts
    simp only [PyData.canLay0, canLay_ints]
  · unfold dInts
    simp only [PyData.depth]
    omega
theorem dp_all {K : PySem.W.Frag} {H : Hp} : ∀ ns : List Int, DpAll K H (ns.map V.int) (ns.map .int)
  | [] => .nil
  | n :: ns => .cons (.int n) (dp_all ns)
theorem dp_ints {K : PySem.W.Frag} {H : Hp} {p : Addr} {ns : List Int} (h : SqL K H p (ns.map V.int)) : Dp K H (.ref p) (dInts ns) := .lst h (dp_all ns)
theorem dp_nil {K : PySem.W.Frag} {H : Hp} {p : Addr} (h : SqL K H p []) : Dp K H (.ref p) (dInts []) := .lst h .nil

/-! ## loops -/
/-- for i, x in enumerate(xs), xs left as it is -/
theorem for_enum {K : PySem.W.Frag} {a : Addr} {xs : List V} {g : TG} {tb : TS} {D : Ends} {σ : L2.St} {H : Hp} (Pv : Nat → L2.St → Hp → Prop) (h0 : Pv 0 σ H)
    (hl : ∀ i σ H, i ≤ xs.length → Pv i σ H → SqL K H a xs)
    (hs : ∀ i x σ H T, xs[i]? = some x → Pv i σ H → H T = none → g (.ref T) σ (upd H T (.tup [.int (i : Nat), x])) fun σ2 H2 => tb { D with nx := Pv (i + 1), ct := Pv (i + 1), bk := D.nx } σ2 H2)
    (hd : ∀ σ H, Pv xs.length σ H → D.nx σ H) :
    ∃ W : Nat → Nat → L2.St → Hp → Prop, (∃ m, W 0 m σ H) ∧ ∀ i m σ H, W i m σ H →
      ((Ite K a).stop i H ∧ D.nx σ H) ∨ ((Ite K a).go i H ∧ ∃ N : L2.St → Hp → Prop, (∀ σ' H', N σ' H' → ∃ m', m' < m ∧ W (i + 1) m' σ' H') ∧
        ∀ x H', (Ite K a).yld i H x H' → g x σ H' fun σ2 H2 => tb { D with nx := N, ct := N, bk := D.nx } σ2 H2) := by
  refine ⟨fun i m σ' H' => m + i = xs.length ∧ Pv i σ' H', ⟨xs.length, rfl, h0⟩, fun i m σ' H' hW => ?_⟩
  obtain ⟨em, hp⟩ := hW
  have hq := hl i σ' H' (by omega) hp
  by_cases hi : i < xs.length
  · refine .inr ⟨⟨xs, xs[i], hq, List.getElem?_eq_getElem hi⟩, Pv (i + 1), fun σ2 H2 h2 => ⟨m - 1, by omega, by omega, h2⟩, fun x H2 hy => ?_⟩
    obtain ⟨T, y, rfl, nT, rfl, hx⟩ := hy
    exact hs i y σ' H' T (hx xs hq) hp nT
  · have e : i = xs.length := by omega
    subst e
    exact .inl ⟨⟨xs, hq, Nat.le_refl _⟩, hd σ' H' hp⟩

/-! ## kinds -/
section
variable {K : PySem.W.Frag} {H : Hp} {p : Addr} {xs : List V} {Q : VK}
theorem isi_tt (h : H p = some (.tup xs)) (q : Q (.bl true) H) : rIsi K [.ref p, .ty "tuple"] H Q := ⟨_, _, _, _, _, rfl, .ty "tuple", .base (.tup h), kit_ty (by decide +kernel), q⟩
theorem isi_lt (h : H p = some (.lst xs)) (q : Q (.bl false) H) : rIsi K [.ref p, .ty "tuple"] H Q := ⟨_, _, _, _, _, rfl, .ty "tuple", .base (.lst h), kit_ty (by decide +kernel), q⟩
theorem isi_ll (h : H p = some (.lst xs)) (q : Q (.bl true) H) : rIsi K [.ref p, .ty "list"] H Q := ⟨_, _, _, _, _, rfl, .ty "list", .base (.lst h), kit_ty (by decide +kernel), q⟩
theorem isi_tl (h : H p = some (.tup xs)) (q : Q (.bl false) H) : rIsi K [.ref p, .ty "list"] H Q := ⟨_, _, _, _, _, rfl, .ty "list", .base (.tup h), kit_ty (by decide +kernel), q⟩
end

/-! ## policies and layers -/
/-- the inner one, then each wait of the outer one and the inner one again -/
def nestL {α : Type} (xs ys : List α) : List α := xs ++ ys.flatMap fun y => y :: xs
theorem nestL_map {α β : Type} (f : α → β) (xs ys : List α) : (nestL xs ys).map f = nestL (xs.map f) (ys.map f) := by
  unfold nestL
  rw [List.map_append, List.map_flatMap, List.flatMap_map]
  congr 1
theorem flatMap_len {α β : Type} (f : α → List β) (n : Nat) (h : ∀ x, (f x).length = n) : ∀ l : List α, (l.flatMap f).length = l.length * n
  | [] => by simp
  | x :: l => by
    rw [List.flatMap_cons, List.length_append, h x, flatMap_len f n h l, List.length_cons, Nat.succ_mul, Nat.add_comm]
theorem nestL_len {α : Type} (xs ys : List α) : (nestL xs ys).length + 1 = (xs.length + 1) * (ys.length + 1) := by
  unfold nestL
  rw [List.length_append, flatMap_len _ (xs.length + 1) (fun _ => rfl)]
  generalize xs.length = a
  generalize ys.length = b
  have e1 : (a + 1) * (b + 1) = a * b + a + (b + 1) := by rw [Nat.add_mul, Nat.mul_add, Nat.mul_one, Nat.one_mul]
  have e2 : b * (a + 1) = a * b + b := by rw [Nat.mul_add, Nat.mul_one, Nat.mul_comm]
  omega
theorem nestL_nil {α : Type} (xs : List α) : nestL xs [] = xs := by
  unfold nestL
  simp
theorem nil_nestL {α : Type} (ys : List α) : nestL [] ys = ys := by
  unfold nestL
  simp
theorem nestL_mem {α : Type} {xs ys : List α} {z : α} (h : z ∈ nestL xs ys) : z ∈ xs ∨ z ∈ ys := by
  unfold nestL at h
  rw [List.mem_append, List.mem_flatMap] at h
  rcases h with h | ⟨y, hy, h⟩
  · exact .inl h
  · rcases List.mem_cons.mp h with e | h
    · exact .inr (e ▸ hy)
    · exact .inl h
inductive Lay where
  | pol (ns : List Int)
  | con (w n : Int)
def Lay.cnt : Lay → Int
  | .pol ns => (ns.length : Int) + 1
  | .con _ n => n
def Lay.waits : Lay → List Int
  | .pol ns => ns
  | .con w n => List.replicate (n - 1).toNat w
def Lay.ok : Lay → Bool
  | .pol ns => ns.all fun x => decide (0 ≤ x)
  | .con w n => decide (0 ≤ w) && decide (1 ≤ n)
theorem Lay.ok_con (w n : Int) : (Lay.con w n).ok = (decide (0 ≤ w) && decide (1 ≤ n)) := rfl
theorem Lay.ok_pol (ns : List Int) : (Lay.pol ns).ok = ns.all fun x => decide (0 ≤ x) := rfl
def LayAt (H : Hp) (v : V) : Lay → Prop
  | .pol ns => ∃ p, v = .ref p ∧ H p = some (.lst (ns.map V.int))
  | .con w n => ∃ p, v = .ref p ∧ H p = some (.tup [.int w, .int n])
theorem LayAt.same {H H' : Hp} {v : V} {L : Lay} (h : LayAt H v L) (e : Same H H') : LayAt H' v L := by
  cases L with
  | pol ns => obtain ⟨p, h1, h2⟩ := h; exact ⟨p, h1, e _ _ h2⟩
  | con w n => obtain ⟨p, h1, h2⟩ := h; exact ⟨p, h1, e _ _ h2⟩
theorem LayAt.ref {H : Hp} {v : V} {L : Lay} (h : LayAt H v L) : ∃ p, v = .ref p := by
  cases L with
  | pol ns => obtain ⟨p, h1, _⟩ := h; exact ⟨p, h1⟩
  | con w n => obtain ⟨p, h1, _⟩ := h; exact ⟨p, h1⟩
def NestAt (H : Hp) (q : Addr) (Ls : List Lay) : Prop := ∃ vs, H q = some (.lst vs) ∧ vs.length = Ls.length ∧ ∀ (i : Nat) v L, vs[i]? = some v → Ls[i]? = some L → LayAt H v L
theorem NestAt.same {H H' : Hp} {q : Addr} {Ls : List Lay} (h : NestAt H q Ls) (e : Same H H') : NestAt H' q Ls := by
  obtain ⟨vs, h1, h2, h3⟩ := h
  exact ⟨vs, e _ _ h1, h2, fun i v L a b => (h3 i v L a b).same e⟩
theorem LayAt.con_pos {L : Lay} (h : L.ok = true) : 1 ≤ L.cnt := by
  cases L with
  | pol ns => show (1 : Int) ≤ (ns.length : Int) + 1; omega
  | con w n =>
    unfold Lay.ok at h
    rw [Bool.and_eq_true] at h
    exact of_decide_eq_true h.2
def attOf (Ls : List Lay) : Int := Ls.foldl (fun t L => t * L.cnt) 1
def flatL (Ls : List Lay) : List Int := Ls.foldl (fun acc L => if L.cnt > 1 then nestL acc L.waits else acc) []
theorem nest_of {H : Hp} {q : Addr} {vs : List V} {Ls : List Lay} (h : H q = some (.lst vs)) (p : Paired (LayAt H) vs Ls) : NestAt H q Ls := by
  refine ⟨vs, h, Paired.length p, ?_⟩
  clear h
  induction p with
  | nil =>
    intro i v L h
    cases h
  | cons r t ih =>
    intro i v L h1 h2
    cases i with
    | zero =>
      cases h1
      cases h2
      exact r
    | succ i => exact ih i v L h1 h2
theorem flatL_eq : ∀ (Ls : List Lay) (acc : List Int), (∀ L ∈ Ls, L.ok = true) → Ls.foldl (fun acc L => if L.cnt > 1 then nestL acc L.waits else acc) acc = Ls.foldl (fun acc L => nestL acc L.waits) acc
  | [], _, _ => rfl
  | L :: Ls, acc, h => by
    have h1 := LayAt.con_pos (h L List.mem_cons_self)
    have e : (if L.cnt > 1 then nestL acc L.waits else acc) = nestL acc L.waits := by
      split
      · rfl
      · have hw : L.waits = [] := by
          cases L with
          | pol ns =>
            have : (ns.length : Int) + 1 = (Lay.pol ns).cnt := rfl
            exact List.length_eq_zero_iff.mp (by show ns.length = 0; omega)
          | con w n =>
            have : n = (Lay.con w n).cnt := rfl
            show List.replicate (n - 1).toNat w = []
            rw [show (n - 1).toNat = 0 by omega]
            rfl
        rw [hw, nestL_nil]
    rw [List.foldl_cons, List.foldl_cons, e]
    exact flatL_eq Ls _ fun M hM => h M (List.mem_cons_of_mem _ hM)
theorem flatL_fold {Ls : List Lay} (h : ∀ L ∈ Ls, L.ok = true) : flatL Ls = Ls.foldl (fun acc L => nestL acc L.waits) [] := flatL_eq Ls [] h
theorem nestL_assoc {α : Type} (xs ys zs : List α) : nestL (nestL xs ys) zs = nestL xs (nestL ys zs) := by
  unfold nestL
  rw [List.flatMap_append, List.append_assoc]
  congr 1
  congr 1
  induction zs with
  | nil => rfl
  | cons z zs ih =>
    simp only [List.flatMap_cons, List.flatMap_append, List.cons_append, List.append_assoc] at ih ⊢
    rw [ih]
theorem pol_ok {ns : List Int} (h : ∀ x ∈ ns, 0 ≤ x ∧ x < 1000000000000) : (Lay.pol ns).ok = true := by
  rw [Lay.ok_pol, List.all_eq_true]
  exact fun x hx => decide_eq_true (h x hx).1
theorem ne_no {ns ms : List Int} {A B : Prop} (h : ns = ms) (b : B) : if (!PyData.eqv (dInts ns) (dInts ms)) = true then A else B := by
  rw [eqv_ints, decide_eq_true h]
  exact iteF b

/-! ## rules of the written part in a comprehension's block -/
section
variable {X : Cx} {K : PySem.W.Frag}
theorem ix_listK (h : X.K = K) : IxR X (rIxL K) := by subst h; exact ix_list
theorem ix_tupK (h : X.K = K) : IxR X (rIxT K) := by subst h; exact ix_tup
theorem sl_listK (h : X.K = K) : SlR X (rSlL K) := by subst h; exact sl_list
theorem op_eqDK (h : X.K = K) (hu : X.A.units + 64 < cLine) : OpR X (compareOp .Eq) (rEqD K) := by subst h; exact op_eqD hu
theorem op_neDK (h : X.K = K) (hu : X.A.units + 64 < cLine) : OpR X (compareOp .NotEq) (rNeD K) := by subst h; exact op_neD hu
theorem op_in_seqK (h : X.K = K) : OpR X (compareOp .In) (rIn K false) := by subst h; exact op_in_seq
theorem op_notIn_seqK (h : X.K = K) : OpR X (compareOp .NotIn) (rIn K true) := by subst h; exact op_notIn_seq
theorem call_isiK1 (h : X.K = K) : CallR X (.builtin "isinstance") (rIsi K) := by subst h; exact call_isi
def rLenK (K : PySem.W.Frag) : List V → Hp → VK → Prop := fun xs H Q => ∃ p ys, xs = [.ref p] ∧ (SqL K H p ys ∨ SqT K H p ys) ∧ Q (.int (ys.length : Int)) H
theorem call_len_seqK (h : X.K = K) : CallR X (.builtin "len") (rLenK K) := by subst h; exact call_len_seq
def rListK (K : PySem.W.Frag) : List V → Hp → VK → Prop := fun xs H Q => ∃ p ys, xs = [.ref p] ∧ (SqL K H p ys ∨ SqT K H p ys) ∧ ∀ l, H l = none → Q (.ref l) (upd H l (.lst ys))
theorem call_list_ofK (h : X.K = K) : CallR X (.type "list") (rListK K) := by subst h; exact call_list_of
end
theorem refs_ints {ps : List Addr} {ws : List Int} (h : ps.map V.ref = ws.map V.int) : ps = [] := by
  cases ps with
  | nil => rfl
  | cons p ps =>
    cases ws with
    | nil => cases h
    | cons w ws =>
      injection h with h1 h2
      cases h1
theorem three {α : Type} {l : List α} (h : l.length = 3) : ∃ x y z, l = [x, y, z] := by
  match l, h with
  | [x, y, z], _ => exact ⟨x, y, z, rfl⟩
theorem ixN_at {n : Nat} {i : Int} (h0 : 0 ≤ i) (h1 : i < n) : ixN n i = some i.toNat := by
  unfold ixN
  rw [if_pos h0, if_pos h1]
theorem eq_yes {ns ms : List Int} (h : ns = ms) : PyData.eqv (dInts ns) (dInts ms) = true := by rw [eqv_ints, decide_eq_true h]
theorem nestL_cons {α : Type} (ns : List α) (m : α) (ms : List α) : nestL ns (m :: ms) = ns ++ m :: nestL ns ms := by
  unfold nestL
  rw [List.flatMap_cons, List.cons_append]
theorem nestL_get {α : Type} (ns : List α) : ∀ (ms : List α) (j : Nat), j < (nestL ns ms).length → (nestL ns ms)[j]? = if (j + 1) % (ns.length + 1) = 0 then ms[(j + 1) / (ns.length + 1) - 1]? else ns[(j + 1) % (ns.length + 1) - 1]?
  | [], j, h => by
    rw [nestL_nil] at h ⊢
    rw [Nat.mod_eq_of_lt (by omega), if_neg (by omega)]
    rfl
  | m :: ms, j, h => by
    rw [nestL_cons] at h ⊢
    by_cases h1 : j < ns.length
    · rw [List.getElem?_append_left h1, Nat.mod_eq_of_lt (by omega), if_neg (by omega)]
      rfl
    · by_cases h2 : j = ns.length
      · subst h2
        rw [List.getElem?_append_right (Nat.le_refl _), Nat.sub_self, Nat.mod_self, if_pos rfl, Nat.div_self (by omega)]
        rfl
      · obtain ⟨t, rfl⟩ : ∃ t, j = ns.length + 1 + t := ⟨j - (ns.length + 1), by omega⟩
        rw [List.getElem?_append_right (by omega), show ns.length + 1 + t - ns.length = t + 1 by omega, List.getElem?_cons_succ]
        rw [List.length_append, List.length_cons] at h
        rw [nestL_get ns ms t (by omega), show ns.length + 1 + t + 1 = (t + 1) + (ns.length + 1) by omega, Nat.add_mod_right, Nat.add_div_right _ (by omega)]
        by_cases h3 : (t + 1) % (ns.length + 1) = 0
        · rw [if_pos h3, if_pos h3, Nat.succ_sub_one]
          have : 1 ≤ (t + 1) / (ns.length + 1) := by
            have := Nat.div_add_mod (t + 1) (ns.length + 1)
            rw [h3] at this
            rcases Nat.eq_zero_or_pos ((t + 1) / (ns.length + 1)) with z | z
            · rw [z] at this
              omega
            · exact z
          obtain ⟨u, hu⟩ : ∃ u, (t + 1) / (ns.length + 1) = u + 1 := ⟨(t + 1) / (ns.length + 1) - 1, by omega⟩
          rw [hu]
          rfl
        · rw [if_neg h3, if_neg h3]
theorem foldl_nestL : ∀ (Ls : List Lay) (xs acc : List Int), Ls.foldl (fun acc L => nestL acc L.waits) (nestL xs acc) = nestL xs (Ls.foldl (fun acc L => nestL acc L.waits) acc)
  | [], _, _ => rfl
  | L :: Ls, xs, acc => by
    rw [List.foldl_cons, List.foldl_cons, nestL_assoc]
    exact foldl_nestL Ls xs (nestL acc L.waits)
theorem flatL_cons {L : Lay} {Ls : List Lay} (h : ∀ M ∈ L :: Ls, M.ok = true) : flatL (L :: Ls) = nestL L.waits (flatL Ls) := by
  rw [flatL_fold h, flatL_fold fun M hM => h M (List.mem_cons_of_mem _ hM), List.foldl_cons, nil_nestL]
  have := foldl_nestL Ls L.waits []
  rw [nestL_nil] at this
  exact this
/-- a nesting whose layers' objects are newer than H0 and none of them is the nesting's own list -/
def NestV (H0 G : Hp) (p : Addr) (vs : List V) (Ls : List Lay) : Prop := G p = some (.lst vs) ∧ vs.length = Ls.length ∧ (∀ (i : Nat) v L, vs[i]? = some v → Ls[i]? = some L → LayAt G v L) ∧ ∀ x, V.ref x ∈ vs → x ≠ p ∧ H0 x = none
theorem NestV.nest {H0 G : Hp} {p : Addr} {vs : List V} {Ls : List Lay} (h : NestV H0 G p vs Ls) : NestAt G p Ls := ⟨vs, h.1, h.2.1, h.2.2.1⟩
theorem NestV.same {H0 G G' : Hp} {p : Addr} {vs : List V} {Ls : List Lay} (h : NestV H0 G p vs Ls) (e : Same G G') : NestV H0 G' p vs Ls :=
  ⟨e _ _ h.1, h.2.1, fun i v L a b => (h.2.2.1 i v L a b).same e, h.2.2.2⟩
theorem NestV.nil {H0 G : Hp} {p : Addr} (h : G p = some (.lst [])) : NestV H0 G p [] [] := ⟨h, rfl, (fun _ _ _ z => nomatch z), (fun _ z => nomatch z)⟩
theorem LayAt.keep {G : Hp} {p : Addr} {o : HO} {v : V} {L : Lay} (h : LayAt G v L) (ne : ∀ x, v = V.ref x → x ≠ p) : LayAt (upd G p o) v L := by
  cases L with
  | pol ns => obtain ⟨x, e, z⟩ := h; exact ⟨x, e, by rw [upd_ne (ne x e)]; exact z⟩
  | con w n => obtain ⟨x, e, z⟩ := h; exact ⟨x, e, by rw [upd_ne (ne x e)]; exact z⟩
theorem NestV.push {H0 G : Hp} {p x : Addr} {vs : List V} {Ls : List Lay} {L : Lay} (h : NestV H0 G p vs Ls) (hx : LayAt G (.ref x) L) (ne : x ≠ p) (fr : H0 x = none) :
    NestV H0 (upd G p (.lst (vs ++ [.ref x]))) p (vs ++ [.ref x]) (Ls ++ [L]) := by
  obtain ⟨h1, h2, h3, h4⟩ := h
  refine ⟨upd_same, by rw [List.length_append, List.length_append, h2]; rfl, fun i v M a b => ?_, fun y hy => ?_⟩
  · by_cases hi : i < vs.length
    · rw [List.getElem?_append_left hi] at a
      rw [List.getElem?_append_left (by omega)] at b
      exact (h3 i v M a b).keep fun y e => (h4 y (e ▸ List.mem_of_getElem? a)).1
    · rw [List.getElem?_append_right (by omega)] at a
      rw [List.getElem?_append_right (by omega), ← h2] at b
      generalize i - vs.length = k at *
      cases k with
      | zero =>
        cases a
        cases b
        exact hx.keep fun y e => by cases e; exact ne
      | succ k => cases a
  · rcases List.mem_append.mp hy with z | z
    · exact h4 y z
    · have := List.mem_singleton.mp z
      cases this
      exact ⟨ne, fr⟩
/-- one of its lists of ints is changed in place, its length kept -/
theorem NestV.turn {H0 G : Hp} {p x : Addr} {vs : List V} {Ls : List Lay} {ws us : List Int} (h : NestV H0 G p vs Ls) (hx : G x = some (.lst (ws.map V.int))) (ne : x ≠ p) (hl : us.length = ws.length) :
    ∃ Ms : List Lay, NestV H0 (upd G x (.lst (us.map V.int))) p vs Ms ∧ Ms.map Lay.cnt = Ls.map Lay.cnt ∧ ∀ M ∈ Ms, M ∈ Ls ∨ (M = .pol us ∧ Lay.pol ws ∈ Ls) := by
  obtain ⟨h1, h2, h3, h4⟩ := h
  suffices key : ∀ (vs : List V) (Ls : List Lay), vs.length = Ls.length → (∀ (i : Nat) v L, vs[i]? = some v → Ls[i]? = some L → LayAt G v L) →
      ∃ Ms : List Lay, vs.length = Ms.length ∧ (∀ (i : Nat) v L, vs[i]? = some v → Ms[i]? = some L → LayAt (upd G x (.lst (us.map V.int))) v L) ∧ Ms.map Lay.cnt = Ls.map Lay.cnt ∧ ∀ M ∈ Ms, M ∈ Ls ∨ (M = .pol us ∧ Lay.pol ws ∈ Ls) by
    obtain ⟨Ms, k1, k2, k3, k4⟩ := key vs Ls h2 h3
    exact ⟨Ms, ⟨by rw [upd_ne ne.symm]; exact h1, k1, k2, h4⟩, k3, k4⟩
  clear h1 h2 h3 h4
  intro vs
  induction vs with
  | nil =>
    intro Ls hl _
    have : Ls = [] := List.length_eq_zero_iff.mp hl.symm
    subst this
    exact ⟨[], rfl, (fun _ _ _ z => nomatch z), rfl, (fun _ z => nomatch z)⟩
  | cons v vs ih =>
    intro Ls hlen hat
    cases Ls with
    | nil => cases hlen
    | cons L Ls =>
      obtain ⟨Ms, k1, k2, k3, k4⟩ := ih Ls (by simpa using hlen) fun i u M a b => hat (i + 1) u M a b
      have h0 := hat 0 v L rfl rfl
      by_cases e : v = V.ref x
      · subst e
        have hL : L = .pol ws := by
          cases L with
          | pol ns =>
            obtain ⟨y, e, z⟩ := h0
            cases e
            rw [hx] at z
            injection z with z
            injection z with z
            have : ∀ (as bs : List Int), as.map V.int = bs.map V.int → as = bs := by
              intro as
              induction as with
              | nil => intro bs q; cases bs with
                | nil => rfl
                | cons b bs => cases q
              | cons a as ih => intro bs q; cases bs with
                | nil => cases q
                | cons b bs =>
                  injection q with q1 q2
                  injection q1 with q1
                  rw [q1, ih bs q2]
            rw [this _ _ z]
          | con w n =>
            obtain ⟨y, e, z⟩ := h0
            cases e
            rw [hx] at z
            cases z
        refine ⟨.pol us :: Ms, by rw [List.length_cons, List.length_cons, k1], fun i u M a b => ?_, ?_, fun M hM => ?_⟩
        · cases i with
          | zero =>
            cases a
            cases b
            exact ⟨x, rfl, upd_same⟩
          | succ i => exact k2 i u M a b
        · rw [List.map_cons, List.map_cons, k3, hL]
          show ((us.length : Int) + 1) :: _ = ((ws.length : Int) + 1) :: _
          rw [hl]
        · rcases List.mem_cons.mp hM with z | z
          · exact .inr ⟨z, by rw [hL]; exact List.mem_cons_self⟩
          · rcases k4 M z with z | ⟨z1, z2⟩
            · exact .inl (List.mem_cons_of_mem _ z)
            · exact .inr ⟨z1, List.mem_cons_of_mem _ z2⟩
      · refine ⟨L :: Ms, by rw [List.length_cons, List.length_cons, k1], fun i u M a b => ?_, ?_, fun M hM => ?_⟩
        · cases i with
          | zero =>
            cases a
            cases b
            exact h0.keep fun y q z => e (by rw [q, z])
          | succ i => exact k2 i u M a b
        · rw [List.map_cons, List.map_cons, k3]
        · rcases List.mem_cons.mp hM with z | z
          · exact .inl (z ▸ List.mem_cons_self)
          · rcases k4 M z with z | ⟨z1, z2⟩
            · exact .inl (List.mem_cons_of_mem _ z)
            · exact .inr ⟨z1, List.mem_cons_of_mem _ z2⟩
theorem attOf_cnt : ∀ (Ls : List Lay) (t : Int), Ls.foldl (fun t L => t * L.cnt) t = (Ls.map Lay.cnt).foldl (fun t c => t * c) t
  | [], _ => rfl
  | L :: Ls, t => by
    rw [List.foldl_cons, List.map_cons, List.foldl_cons]
    exact attOf_cnt Ls _
theorem attOf_same {Ls Ms : List Lay} (h : Ms.map Lay.cnt = Ls.map Lay.cnt) : attOf Ms = attOf Ls := by
  unfold attOf
  rw [attOf_cnt, attOf_cnt, h]
/-- a layer that a law draws -/
def Lay.nice (L : Lay) : Prop := L.ok = true ∧ match L with
  | .pol ns => ns.length ≤ 60 ∧ ∀ x ∈ ns, 0 ≤ x ∧ x < 1000000000000
  | .con w n => w < 1000000000000 ∧ n < 1000000000000000000000
theorem Lay.nice_pol {ns : List Int} (h : ns.length ≤ 60) (hb : ∀ x ∈ ns, 0 ≤ x ∧ x < 1000000000000) : (Lay.pol ns).nice := ⟨pol_ok hb, h, hb⟩
theorem Lay.nice_con {w n : Int} (h0 : 0 ≤ w) (h1 : w < 1000000000000) (h2 : 1 ≤ n) (h3 : n < 1000000000000000000000) : (Lay.con w n).nice :=
  ⟨by rw [Lay.ok_con, decide_eq_true h0, decide_eq_true h2]; rfl, h1, h3⟩
theorem attOf_snoc (Ls : List Lay) (L : Lay) : attOf (Ls ++ [L]) = attOf Ls * L.cnt := by
  unfold attOf
  rw [List.foldl_append]
  rfl
theorem attOf_lt : ∀ n (Ls : List Lay), Ls.length = n → (∀ L ∈ Ls, L.ok = true ∧ L.cnt < 2 ^ 100) → 0 < attOf Ls ∧ (attOf Ls).natAbs < 2 ^ (100 * n + 1)
  | 0, Ls, e, _ => by
    have e' : Ls = [] := List.length_eq_zero_iff.mp e
    subst e'
    exact ⟨by decide, by decide⟩
  | n + 1, Ls, e, h => by
    have hne : Ls ≠ [] := fun z => by rw [z] at e; cases e
    obtain ⟨Ms, L, rfl⟩ : ∃ Ms L, Ls = Ms ++ [L] := ⟨_, _, (List.dropLast_concat_getLast hne).symm⟩
    rw [List.length_append] at e
    obtain ⟨i1, i2⟩ := attOf_lt n Ms (by simpa using e) fun M hM => h M (List.mem_append_left _ hM)
    obtain ⟨h1, h2⟩ := h L (List.mem_append_right _ List.mem_cons_self)
    have h3 := LayAt.con_pos h1
    rw [attOf_snoc]
    refine ⟨Int.mul_pos i1 (by omega), ?_⟩
    have z := wide_lt (i := attOf Ms) (j := L.cnt) (b := 100) i2 (by omega)
    rw [show 100 * (n + 1) + 1 = 100 * n + 1 + 100 by omega]
    exact z
theorem flatL_snoc (Ls : List Lay) (L : Lay) : flatL (Ls ++ [L]) = if L.cnt > 1 then nestL (flatL Ls) L.waits else flatL Ls := by
  unfold flatL
  rw [List.foldl_append]
  rfl
theorem waits_len {L : Lay} (h : L.ok = true) : (L.waits.length : Int) + 1 = L.cnt := by
  cases L with
  | pol ns => rfl
  | con w n =>
    have := LayAt.con_pos h
    have : 1 ≤ n := this
    show ((List.replicate (n - 1).toNat w).length : Int) + 1 = n
    rw [List.length_replicate]
    omega
theorem flatL_len : ∀ n (Ls : List Lay), Ls.length = n → (∀ L ∈ Ls, L.ok = true) → ((flatL Ls).length : Int) + 1 = attOf Ls
  | 0, Ls, e, _ => by
    have e' : Ls = [] := List.length_eq_zero_iff.mp e
    subst e'
    rfl
  | n + 1, Ls, e, h => by
    have hne : Ls ≠ [] := fun z => by rw [z] at e; cases e
    obtain ⟨Ms, L, rfl⟩ : ∃ Ms L, Ls = Ms ++ [L] := ⟨_, _, (List.dropLast_concat_getLast hne).symm⟩
    rw [List.length_append] at e
    have ih := flatL_len n Ms (by simpa using e) fun M hM => h M (List.mem_append_left _ hM)
    have h1 := h L (List.mem_append_right _ List.mem_cons_self)
    have h3 := LayAt.con_pos h1
    have h4 := waits_len h1
    rw [attOf_snoc, flatL_snoc, ← ih]
    split
    · have e5 := nestL_len (flatL Ms) L.waits
      rw [← h4]
      exact_mod_cast e5
    · have : L.cnt = 1 := by omega
      rw [this, Int.mul_one]
theorem attOf_part : ∀ (Ms Ls : List Lay), (∀ L ∈ Ls, L.ok = true) → (∀ L ∈ Ms, L.ok = true) → 1 ≤ attOf Ms ∧ attOf Ms ≤ attOf (Ms ++ Ls)
  | Ms, [], _, h => by
    rw [List.append_nil]
    refine ⟨?_, Int.le_refl _⟩
    have := flatL_len _ Ms rfl h
    omega
  | Ms, L :: Ls, h0, h => by
    have h1 := attOf_part (Ms ++ [L]) Ls (fun M hM => h0 M (List.mem_cons_of_mem _ hM)) (fun M hM => by
      rcases List.mem_append.mp hM with z | z
      · exact h M z
      · rw [List.mem_singleton.mp z]
        exact h0 L List.mem_cons_self)
    rw [List.append_assoc] at h1
    have h2 := LayAt.con_pos (h0 L List.mem_cons_self)
    have h3 := flatL_len _ Ms rfl h
    rw [attOf_snoc] at h1
    have h4 : attOf Ms * 1 ≤ attOf Ms * L.cnt := Int.mul_le_mul_of_nonneg_left h2 (by omega)
    refine ⟨by omega, ?_⟩
    have h5 : attOf Ms * L.cnt ≤ attOf (Ms ++ ([L] ++ Ls)) := h1.2
    have h6 : Ms ++ L :: Ls = Ms ++ ([L] ++ Ls) := rfl
    rw [h6]
    omega
theorem cnt_le {Ls : List Lay} (h : ∀ L ∈ Ls, L.ok = true) {L : Lay} (hL : L ∈ Ls) : L.cnt ≤ attOf Ls := by
  obtain ⟨As, Bs, rfl⟩ := List.append_of_mem hL
  have h1 := attOf_part As [] (fun _ z => nomatch z) (fun M hM => h M (List.mem_append_left _ hM))
  have h2 := attOf_part (As ++ [L]) Bs (fun M hM => h M (List.mem_append_right _ (List.mem_cons_of_mem _ hM))) (fun M hM => by
    rcases List.mem_append.mp hM with z | z
    · exact h M (List.mem_append_left _ z)
    · rw [List.mem_singleton.mp z]
      exact h L hL)
  have h3 := LayAt.con_pos (h L hL)
  rw [attOf_snoc, List.append_assoc] at h2
  have h4 : 1 * L.cnt ≤ attOf As * L.cnt := Int.mul_le_mul_of_nonneg_right h1.1 (by omega)
  have h5 : attOf As * L.cnt ≤ attOf (As ++ ([L] ++ Bs)) := h2.2
  have h6 : As ++ L :: Bs = As ++ ([L] ++ Bs) := rfl
  rw [h6]
  omega
theorem attOf_pos {Ls : List Lay} (h : ∀ L ∈ Ls, L.ok = true) : 1 ≤ attOf Ls := (attOf_part Ls [] (fun _ z => nomatch z) h).1
theorem part_left {t c left most : Int} (ht : 1 ≤ t) (hc : 1 ≤ c) (hl : c ≤ left) (h : t * left ≤ most) : 1 ≤ left / c ∧ t * c * (left / c) ≤ most := by
  refine ⟨by rw [Int.le_ediv_iff_mul_le (by omega)]; omega, ?_⟩
  have h1 : c * (left / c) ≤ left := by
    have := Int.mul_ediv_add_emod left c
    have := Int.emod_nonneg left (show c ≠ 0 by omega)
    omega
  rw [Int.mul_assoc]
  exact Int.le_trans (Int.mul_le_mul_of_nonneg_left h1 (by omega)) h
theorem le_left {t left most : Int} (ht : 1 ≤ t) (hl : 1 ≤ left) (h : t * left ≤ most) : t ≤ most := by
  have : t * 1 ≤ t * left := Int.mul_le_mul_of_nonneg_left hl (by omega)
  omega
theorem rep_flat {α : Type} (x : α) : ∀ m : Nat, (List.replicate m [x]).flatten = List.replicate m x
  | 0 => rfl
  | m + 1 => by
    rw [List.replicate_succ, List.flatten_cons, rep_flat x m, List.replicate_succ]
    rfl
def Lay.dat : Lay → PyData
  | .pol ns => dInts ns
  | .con w n => .tuple [.int w, .int n]
theorem dp_lay {K : PySem.W.Frag} {G : Hp} {v : V} {L : Lay} (h : LayAt G v L) : Dp K G v L.dat := by
  cases L with
  | pol ns => obtain ⟨p, rfl, hp⟩ := h; exact dp_ints (sql hp)
  | con w n => obtain ⟨p, rfl, hp⟩ := h; exact .tup (sqt hp) (.cons (.int w) (.cons (.int n) .nil))
theorem dp_lays {K : PySem.W.Frag} {G : Hp} : ∀ (vs : List V) (Ls : List Lay), vs.length = Ls.length → (∀ (i : Nat) v L, vs[i]? = some v → Ls[i]? = some L → LayAt G v L) → DpAll K G vs (Ls.map Lay.dat)
  | [], [], _, _ => .nil
  | [], _ :: _, h, _ => by cases h
  | _ :: _, [], h, _ => by cases h
  | v :: vs, L :: Ls, h, hat => .cons (dp_lay (hat 0 v L rfl rfl)) (dp_lays vs Ls (by simpa using h) fun i u M a b => hat (i + 1) u M a b)
theorem dp_nest {K : PySem.W.Frag} {G : Hp} {p : Addr} {Ls : List Lay} (h : NestAt G p Ls) : Dp K G (.ref p) (.list (Ls.map Lay.dat)) := by
  obtain ⟨vs, h1, h2, h3⟩ := h
  exact .lst (sql h1) (dp_lays vs Ls h2 h3)
theorem cut_one (xs : List V) : cutV xs none (some 1) = xs.take 1 := by
  unfold cutV
  rw [HT.sIx_none, show HT.sIx xs.length xs.length (some 1) = min 1 xs.length from HT.sIx_nat xs.length _ 1]
  cases xs with
  | nil => rfl
  | cons x r =>
    rw [show min 1 (x :: r).length = 1 by rw [List.length_cons]; omega]
    rfl
theorem flatL_con {w n : Int} (h0 : 0 ≤ w) (h1 : 1 ≤ n) : flatL [.con w n] = List.replicate (n - 1).toNat w := by
  rw [flatL_fold fun L hL => by rw [List.mem_singleton.mp hL, Lay.ok_con, decide_eq_true h0, decide_eq_true h1]; rfl]
  show nestL [] (List.replicate (n - 1).toNat w) = _
  rw [nil_nestL]
theorem NestV.low {H0 G : Hp} {a d p : Addr} {us : List V} {Ls : List Lay} (hv : NestV H0 (hid a d G) p us Ls) : NestAt G p Ls := by
  obtain ⟨z1, z2, z3, _⟩ := hv
  refine ⟨us, (hid_get z1).1, z2, fun i v L x y => ?_⟩
  have := z3 i v L x y
  cases L with
  | pol ns => obtain ⟨p, e, z⟩ := this; exact ⟨p, e, (hid_get z).1⟩
  | con w n => obtain ⟨p, e, z⟩ := this; exact ⟨p, e, (hid_get z).1⟩
theorem nice_cnt {L : Lay} (h : L.nice) : L.cnt < 2 ^ 100 := by
  obtain ⟨h0, h1⟩ := h
  cases L with
  | pol ns =>
    obtain ⟨h1, _⟩ := h1
    show (ns.length : Int) + 1 < 2 ^ 100
    omega
  | con w n =>
    obtain ⟨_, h1⟩ := h1
    show n < 2 ^ 100
    omega
end Rn

set_option Elab.async false
set_option linter.all false
set_option maxRecDepth 100000
set_option maxHeartbeats 4000000
namespace Rn
open PySem PySem.Spec PyProof.Rows L2
/-! ## repr of data; a law entered where no list is being shown -/
section
variable {X : Cx} {K : PySem.W.Frag}
def rRepr (K : PySem.W.Frag) : List V → Hp → VK → Prop := fun xs H Q => ∃ (p : Addr) (d : PyData), xs = [.ref p] ∧ Dp K H (.ref p) d ∧ d.showable = true ∧ d.hasDict = false ∧ d.depth ≤ 50 ∧ d.shown.length ≤ sizeLine ∧ Q (.str d.shown) H
theorem call_repr {k : Nat} (hg : X.A.guards = some []) (hr : Room k X.A) : CallR X (.builtin "repr") (rRepr X.K) := by
  intro pins s σ H xs us Q I r h
  obtain ⟨p, d, rfl, hd, hs, hh, hdep, hz, q⟩ := h
  cases r with
  | cons r1 r2 =>
    cases r2
    cases r1
    obtain ⟨as, rd⟩ := Dp.reads I d _ _ hd rfl
    have hu := hr.units
    exact repr_of_reads' rd hs (PyData.noDict_hsm hh) hg (by omega) (fun _ _ e => e) (fun h' u tk hk => ⟨.str d.shown, H, I.kept (t' := tk) hk, ⟨u, rfl⟩, q⟩) hz
end
section
variable {P : Program} {w : World} {K : PySem.W.Frag} {mg : Str → Option Value} {base : Heap}
/-- a promise that is kept wherever nothing is being shown -/
def FnG (P : Program) (w : World) (K : PySem.W.Frag) (mg : Str → Option Value) (base : Heap) (k : Nat) (f : Addr) (fd : FuncData) (ps : List Str) (sp : Sp) : Prop :=
  ∀ (A : Around) (outer : List Env) (s : Shared) (H : Hp) (args : Args) (us : List Value) (vs : List V) (Q : VK) (E : XK), A.guards = some [] → Room k A → Env0 P w K mg base A outer s H →
    BindsTo s fd args (ps.zip us) → Vals vs us → vs.length = ps.length → sp vs H Q E → codeAny (model P w) A (.call (.ref f) args) (CR CX0 outer P w H s Q E) s
theorem okG {x qual : Str} {st : Stmt} {f : Addr} {fd : FuncData} {N ps : List Str} {k : Nat} {sp : Sp} (F : Fun K x qual st f fd) (S : FnScope N ps (defScope st))
    (hbody : ∀ (cdv : Value) (A : Around) (outer : List Env) (s : Shared) (H : Hp) (vs : List V) (Q : VK) (E : XK), A.guards = some [] → Room k (A.deeper (envOfC qual (defScope st) s.heap.objs.size f cdv)) → sp vs H Q E →
      ∃ t, PSs (cxOf CX0 P w K mg base N qual (defScope st) f cdv A outer s H E).nox (defBody st) t ∧ t { nx := fun _ H' => Q .non H', rt := Q } (start N vs) H) :
    FnG P w K mg base (k + 1) f fd ps sp := by
  obtain ⟨oc, od, kV, doc, pm, an, cdv, ct, osl, efd, look, code⟩ := F.ex
  subst efd
  intro A outer s H args us vs Q E guard room e0 bind rel hlen want
  have same : ∀ b o, base.get? b = some o → s.heap.get? b = some o := fun b o z => (e0.bs b o z).1
  refine Att.call_fn (e0.mod.kin.keeps same) (e0.mod.nolimit.keeps same) look code room.depth bind ?_ (fun s1 x1 => ?_) S.co S.gen S.kind
  · rw [List.all_eq_true]
    rintro ⟨n, v⟩ hm
    rcases S.par n (List.of_mem_zip hm).1 with z | z
    · simp [z]
    · simp [z]
  obtain ⟨t, ht, hq⟩ := hbody cdv A outer s H vs Q E guard (room.deeper _) want
  have start0 : Inv (cxOf CX0 P w K mg base N qual (defScope st) f cdv A outer s H E) [] (start N vs) H s1 := inv_start S room.hd e0 hlen rel x1
  refine wpAny_mono (ht.nox.run [] s1 _ H _ start0 hq) (fun flow s2 done => ?_) (fun _ _ z => z)
  cases flow with
  | brk => exact (by obtain ⟨_, _, _, z⟩ := done; exact False.elim z)
  | cont => exact (by obtain ⟨_, _, _, z⟩ := done; exact False.elim z)
  | next =>
    obtain ⟨_, H2, J, z⟩ := done
    exact ⟨.non, H2, J.os, J.bare, J.base, J.hok, rfl, z⟩
  | ret u =>
    obtain ⟨v, _, H2, J, rv, z⟩ := done
    exact ⟨v, H2, J.os, J.bare, J.base, J.hok, rv, z⟩
/-- the heap's view at a law's entry: the script is known to the object, unless it is one of the text's own -/
def seen (K : PySem.W.Frag) (a : Addr) (vs : List Value) (ns : List Int) : Hp := fun b =>
  if b = a ∧ K.lookup a = none then some (.frz { cls := .type "list", data := .seq vs.toArray } (.lst (ns.map V.int))) else none
theorem seen_some {a b : Addr} {vs : List Value} {ns : List Int} {o : HO} (h : seen K a vs ns b = some o) : b = a ∧ K.lookup a = none ∧ o = .frz { cls := .type "list", data := .seq vs.toArray } (.lst (ns.map V.int)) := by
  unfold seen at h
  by_cases z : b = a ∧ K.lookup a = none
  · rw [if_pos z] at h
    exact ⟨z.1, z.2, (Option.some.inj h).symm⟩
  · rw [if_neg z] at h
    cases h
theorem law_at {mb : Str → Option Value} {fa a : Addr} {s1 : Shared} {vs : List Value} {ns : List Int} (hK : K.In s1.heap) (hmg : s1.heap.Ns mainGlobals mg) (hmb : s1.heap.Ns builtinsNs mb)
    (hbo : ∀ x : Str, x ≠ "__name__" → mb x = bootBuiltins x) (lim : s1.heap.NoLimit) (gens : s1.gens = #[]) (here : s1.heap.get? a = some { cls := .type "list", data := .seq vs.toArray }) (nums : IntsAre vs ns) (few : ns.length ≤ 63)
    (run : ∀ (base : Heap) (H : Hp), K.In base → base.Ns mainGlobals mg → Env0 P w K mg base callerA [] s1 H → SqL K H a (ns.map V.int) → codeAny (model P w) callerA (.call (.ref fa) ⟨[.ref a], []⟩) (CR CX0 [] P w H s1 (fun v _ => v = .bl true) E0) s1) :
    codeAny (model P w) callerA (.call (.ref fa) ⟨[.ref a], []⟩) (fun r s' => r = .ok (.ret (.bool true)) ∧ OldK s1.heap s'.heap ∧ s'.os = s1.os ∧ AllBare s'.gens) s1 := by
  have rel := vals_ints nums
  have cnt := nums.length
  have notDict : ∀ {b : Addr} {m : Str → Option Value}, s1.heap.Ns b m → seen K a vs ns b = none := fun {b m} z => by
    obtain ⟨o, es, ep, e, d, _⟩ := z
    cases q : seen K a vs ns b with
    | none => rfl
    | some u =>
      obtain ⟨eb, _, _⟩ := seen_some q
      rw [eb, here] at e
      cases e
      cases d
  have shift : ∀ {b : Addr} {m : Str → Option Value}, s1.heap.Ns b m → (hidT s1.heap (seen K a vs ns)).Ns b m := fun z => by
    have n := notDict z
    obtain ⟨o, es, ep, e, r⟩ := z
    exact ⟨o, es, ep, hidT_get e n, r⟩
  have kin : K.In (hidT s1.heap (seen K a vs ns)) := fun b o e => hidT_get (hK b o e) (by
    cases q : seen K a vs ns b with
    | none => rfl
    | some u =>
      obtain ⟨eb, en, _⟩ := seen_some q
      rw [eb, en] at e
      cases e)
  have hok : HOk P w (seen K a vs ns) s1.heap := fun b o e => by
    obtain ⟨rfl, _, rfl⟩ := seen_some e
    exact ⟨here, size_le (by rw [List.length_map]; omega), vs, _, rel, here⟩
  have env : Env0 P w K mg (hidT s1.heap (seen K a vs ns)) callerA [] s1 (seen K a vs ns) :=
    ⟨rfl, ⟨kin, shift hmg, ⟨mb, shift hmb, hbo⟩, by obtain ⟨mc, z1, z2⟩ := lim; exact ⟨mc, shift z1, z2⟩⟩, fun b o e => of_hidT e, Nat.le_of_eq (hidT_size _ _), trivial, (fun b z => nomatch z), hok, .of_eq gens⟩
  have script : SqL K (seen K a vs ns) a (ns.map V.int) := by
    cases q : K.lookup a with
    | none => exact .inl (.inr ⟨_, if_pos ⟨rfl, q⟩⟩)
    | some o =>
      have e := hK a o q
      rw [here] at e
      cases e
      exact .inr ⟨_, vs.toArray, _, q, rfl, rfl, rfl, by rw [List.size_toArray, cnt]; exact size_le (by omega), by simpa using rel⟩
  refine codeAny_mono (run _ _ kin (shift hmg) env script) fun r s' z => ?_
  cases r with
  | error e => exact False.elim z
  | ok flow =>
    cases flow with
    | brk => exact False.elim z
    | cont => exact False.elim z
    | next => exact False.elim z
    | ret u =>
      obtain ⟨v, H', os, bare, un, hok', rv, (rfl : v = .bl true)⟩ := z
      cases (show u = Value.bool true from rv)
      refine ⟨rfl, OldK.of_keep fun b o e => ?_, os, bare⟩
      cases q : seen K a vs ns b with
      | none => exact un.keep b o e q (fun z => nomatch z) (fun z => nomatch z)
      | some y =>
        obtain ⟨_, _, rfl⟩ := seen_some q
        obtain ⟨e2, _⟩ := hok' b _ (un.frzs b _ _ q)
        obtain ⟨e1, _⟩ := hok b _ q
        rw [e] at e1
        cases e1
        exact e2
end
/-- the walk's end for a law that shows lists -/
theorem walk_G {l : PySem.W.OpenLaw} {k : Nat} {q : Program} {loose : List Str} {XP : (Str → Option Value) → Heap → Prop} {YP : World → Heap → Prop} {d : DefRec} {K : Params → PySem.W.Frag} {sp : PySem.W.Frag → Sp}
    (hn : l.most = some 63) (hdf : d.params.defaults = []) (hr : Room k callerA) (hY : ∀ (w : World) (h : Heap), YP w h → (K w.params).In h)
    (F : ∀ (w : World) (mg : Str → Option Value) (fa : Addr) (h : Heap), (K w.params).In h → h.Ns mainGlobals mg → mg d.name = some (.ref fa) →
      ∃ fd : FuncData, (∀ (s : Shared) (u : Value), BindsTo s fd ⟨[u], []⟩ [("script", u)]) ∧ ∀ base : Heap, (K w.params).In base → base.Ns mainGlobals mg → FnG l.prog w (K w.params) mg base k fa fd ["script"] (sp (K w.params)))
    (hsp : ∀ (K : PySem.W.Frag) (H : Hp) (a : Addr) (ns : List Int), ns.length ≤ 63 → SqL K H a (ns.map V.int) → sp K [.ref a] H (fun v _ => v = .bl true) E0) :
    PySem.W.WalkO q loose XP YP l.row.toRowW d [] (fun f vs => PySem.call f vs) := by
  refine Att.attach_call hn hdf fun w s0 s1 mg mb fa o pm cd doc a vs ns G Y _ _ _ hmg here nums few gens => ?_
  obtain ⟨fd, bind, run⟩ := F w mg fa _ (hY w _ Y) G.T.g hmg
  exact law_at (hY w _ Y) G.T.g G.T.b G.T.builtins G.T.nolimit gens here nums few fun base H kin ns1 env script =>
    run base kin ns1 callerA [] s1 H _ [.ref a] [.ref a] _ _ rfl hr env (bind s1 (.ref a)) (.cons rfl .nil) rfl (hsp _ H a ns few script)
end Rn
namespace Rn
open PySem PySem.Spec PyProof.Rows L2
/-! ## calls by keywords alone -/
def tCallKw (sp : Sp) (gV : List V → List V → List V) (E : XK) (tk : TA) : TE := fun σ H Q => tk σ H fun zs H1 => sp (gV [] zs) H1 Q E
section
variable {X : Cx} {CX : CXT} {k : Nat} {f : Addr} {fd : FuncData} {ps ks : List Str} {sp : Sp} {E : XK} {x : Str} {p pos : Pos} {kws : List Keyword} {tk : TA} {g : List Value → List Value → List Value} {gV : List V → List V → List V}
theorem pe_callKw (F : FnOk X.prog X.w X.K X.mg X.base CX k f fd ps sp) (room : Room k X.A) (hg : Gl X x) (here : X.mg x = some (.ref f)) (keep : PySem.W.keepIn X.K (.ref f) = true) (bind : KBinds X.K fd ps ks g gV) (out : Passes CX X E)
    (hkw : PK X kws tk) (named : (backToKw pos (keywordEach kws X.env)).all (·.1.isSome) = true := by rfl) (order : (backToKw pos (keywordEach kws X.env)).filterMap (·.1) = ks := by rfl)
    (nodebug : (x == ("__debug__" : Str)) = false := by decide) (plain : ((backTo pos (starEach [] X.env)).any (·.1) || (backToKw pos (keywordEach kws X.env)).any (·.1.isNone)) = false := by rfl) :
    PE X (.Call (.Name x p) [] kws pos) (tCallKw sp gV E tk) := by
  constructor
  intro pins s σ H Q I h
  refine wpAny_Call_Name_kw (ld_glob I hg here ?_ nodebug)
  refine PySem.W.callWith_KW0 (h₀ := X.base) I.ok.mod.kin keep named (thn (hkw.run pos pins s σ H _ I h) fun ws s2 z => ?_) plain
  obtain ⟨zs, H2, I2, rz, q2⟩ := z
  rw [order]
  exact ⟨I2.kIn, run_fnk (us := []) (vs := []) F room bind out I2 .nil rz q2⟩
end
def kw1 {α : Type} : List α → List α → List α
  | [], [a] => [a]
  | _, _ => []
def kw2r {α : Type} : List α → List α → List α
  | [], [a, b] => [b, a]
  | _, _ => []
section
variable {K : PySem.W.Frag} {fd : FuncData} {p q : Str}
theorem kb1 (h : ∀ (s : Shared) (a : Value), BindsTo s fd ⟨[], [(p, a)]⟩ [(p, a)]) : KBinds K fd [p] [p] kw1 kw1 := by
  refine ⟨fun s us ws _ hl => ?_, fun {vs us zs ws} r1 r2 => ?_⟩
  · match us, ws, hl with
    | [], [a], _ => exact h s a
  · cases r1 with
    | cons _ _ => exact .nil
    | nil =>
      cases r2 with
      | nil => exact .nil
      | cons a r =>
        cases r with
        | nil => exact .cons a .nil
        | cons _ _ => exact .nil
theorem kb2r (h : ∀ (s : Shared) (a b : Value), BindsTo s fd ⟨[], [(q, a), (p, b)]⟩ [(p, b), (q, a)]) : KBinds K fd [p, q] [q, p] kw2r kw2r := by
  refine ⟨fun s us ws _ hl => ?_, fun {vs us zs ws} r1 r2 => ?_⟩
  · match us, ws, hl with
    | [], [a, b], _ => exact h s a b
  · cases r1 with
    | cons _ _ => exact .nil
    | nil =>
      cases r2 with
      | nil => exact .nil
      | cons a r =>
        cases r with
        | nil => exact .nil
        | cons b r =>
          cases r with
          | nil => exact .cons b (.cons a .nil)
          | cons _ _ => exact .nil
end
/-! ## data that can be shown -/
structure Shw (d : PyData) (W D : Nat) : Prop where
  show1 : d.showable = true
  plain : d.hasDict = false
  short : d.leavesShort 25 = true
  heavy : d.weight ≤ W
  deep : d.depth ≤ D
theorem Shw.fits {d : PyData} {W D : Nat} (s : Shw d W D) (h : W ≤ 500000) : d.shown.length ≤ sizeLine := by
  have h1 := PyData.shown_le 25 (by decide) d s.short
  have h2 := s.heavy
  have h3 : (25 + 2) * d.weight ≤ 27 * 500000 := Nat.mul_le_mul (by decide) (by omega)
  rw [sizeLine_eq]
  omega
theorem log_lt {i : Int} (h : i.natAbs < 10 ^ 24) : i.natAbs.log2 < 80 := PySem.Flt.log2_lt_of (k := 80) (by decide) (Nat.lt_trans h (by decide))
theorem Shw.int {i : Int} (h : i.natAbs < 10 ^ 24) : Shw (.int i) 80 1 := by
  have h1 := log_lt h
  refine ⟨?_, rfl, ?_, ?_, ?_⟩
  · simp only [PyData.showable, decide_eq_true_eq]
    omega
  · simp only [PyData.leavesShort, decide_eq_true_eq]
    have e := int_text_length_le10 (k := 24) (by decide) h
    show (Str.ofString (toString i)).length ≤ 25
    rw [PySem.ofString_length]
    exact e
  · simp only [PyData.weight]
    split
    · omega
    · omega
  · simp only [PyData.depth]
    omega
theorem Shw.all {W D : Nat} : ∀ ds : List PyData, (∀ d ∈ ds, Shw d W D) → PyData.showableAll ds = true ∧ PyData.hasDictAll ds = false ∧ PyData.leavesShortAll 25 ds = true ∧ PyData.weightAll ds ≤ ds.length * (W + 1) ∧ PyData.depthAll ds ≤ D
  | [], _ => ⟨rfl, rfl, rfl, Nat.zero_le _, Nat.zero_le _⟩
  | d :: ds, h => by
    obtain ⟨a1, a2, a3, a4, a5⟩ := Shw.all ds fun e he => h e (List.mem_cons_of_mem _ he)
    obtain ⟨b1, b2, b3, b4, b5⟩ := h d List.mem_cons_self
    refine ⟨?_, ?_, ?_, ?_, ?_⟩
    · simp only [PyData.showableAll, b1, a1, Bool.and_self]
    · simp only [PyData.hasDictAll, b2, a2, Bool.or_self]
    · simp only [PyData.leavesShortAll, b3, a3, Bool.and_self]
    · simp only [PyData.weightAll, List.length_cons, Nat.succ_mul]
      omega
    · simp only [PyData.depthAll]
      omega
theorem Shw.list {W D : Nat} {ds : List PyData} (h : ∀ d ∈ ds, Shw d W D) : Shw (.list ds) (ds.length * (W + 1)) (D + 1) := by
  obtain ⟨a1, a2, a3, a4, a5⟩ := Shw.all ds h
  exact ⟨by simpa only [PyData.showable] using a1, by simpa only [PyData.hasDict] using a2, by simpa only [PyData.leavesShort] using a3, by simpa only [PyData.weight] using a4, by simp only [PyData.depth]; omega⟩
theorem Shw.tuple {W D : Nat} {ds : List PyData} (h : ∀ d ∈ ds, Shw d W D) : Shw (.tuple ds) (ds.length * (W + 1)) (D + 1) := by
  obtain ⟨a1, a2, a3, a4, a5⟩ := Shw.all ds h
  exact ⟨by simpa only [PyData.showable] using a1, by simpa only [PyData.hasDict] using a2, by simpa only [PyData.leavesShort] using a3, by simpa only [PyData.weight] using a4, by simp only [PyData.depth]; omega⟩
theorem Shw.mono {d : PyData} {W W' D D' : Nat} (s : Shw d W D) (h : W ≤ W') (h' : D ≤ D') : Shw d W' D' := ⟨s.1, s.2, s.3, Nat.le_trans s.4 h, Nat.le_trans s.5 h'⟩
theorem Shw.nums {ns : List Int} (h : ∀ x ∈ ns, x.natAbs < 10 ^ 24) : Shw (dInts ns) (ns.length * 81) 2 := by
  have := Shw.list (ds := ns.map .int) (W := 80) (D := 1) fun d hd => by
    obtain ⟨x, hx, rfl⟩ := List.mem_map.mp hd
    exact Shw.int (h x hx)
  rw [List.length_map] at this
  exact this
theorem Shw.two {d e : PyData} {W D : Nat} (h1 : Shw d W D) (h2 : Shw e W D) : Shw (.list [d, e]) (2 * (W + 1)) (D + 1) :=
  Shw.list (ds := [d, e]) fun x hx => by
    simp only [List.mem_cons, List.not_mem_nil, or_false] at hx
    rcases hx with rfl | rfl
    · exact h1
    · exact h2
theorem ne_str {x y : Str} {A B : Prop} (h : x = y) (b : B) : if (!decide (V.str x = V.str y)) = true then A else B := by
  rw [h, decide_eq_true rfl]
  exact iteF b
theorem Shw.lay {L : Lay} (h : L.nice) : Shw L.dat 4860 2 := by
  obtain ⟨h0, h1⟩ := h
  cases L with
  | pol ns =>
    obtain ⟨h1, h2⟩ := h1
    exact (Shw.nums fun x hx => by have := h2 x hx; omega).mono (by omega) (Nat.le_refl _)
  | con w n =>
    obtain ⟨h1, h2⟩ := h1
    have h3 := LayAt.con_pos h0
    have h3 : 1 ≤ n := h3
    rw [Lay.ok_con, Bool.and_eq_true] at h0
    have h4 := of_decide_eq_true h0.1
    refine (Shw.tuple (ds := [.int w, .int n]) (W := 80) (D := 1) fun d hd => ?_).mono (by show 2 * 81 ≤ 4860; decide) (Nat.le_refl _)
    simp only [List.mem_cons, List.not_mem_nil, or_false] at hd
    rcases hd with rfl | rfl
    · exact Shw.int (by omega)
    · exact Shw.int (by omega)
theorem Shw.nest {Ls : List Lay} {m : Nat} (h : ∀ L ∈ Ls, L.nice) (hl : Ls.length ≤ m) : Shw (.list (Ls.map Lay.dat)) (m * 4861) 3 := by
  refine (Shw.list (ds := Ls.map Lay.dat) (W := 4860) (D := 2) fun d hd => ?_).mono (by rw [List.length_map]; exact Nat.mul_le_mul_right _ hl) (Nat.le_refl _)
  obtain ⟨L, hL, rfl⟩ := List.mem_map.mp hd
  exact Shw.lay (h L hL)
end Rn

set_option Elab.async false
set_option linter.all false
set_option maxRecDepth 100000
set_option maxHeartbeats 4000000
namespace Rn
open PySem PySem.Spec PyProof.Rows L2
theorem pick_f (u v : Value) : slicePick #[u, v] none none (some 1) = #[u, v] := by
  unfold slicePick
  rw [show sliceBounds none none (some 1) (#[u, v] : Array Value).size = (0, 2, 1) from (by decide : sliceBounds none none (some 1) 2 = (0, 2, 1))]
  show ((sliceRange 0 2 1).filterMap ((#[u, v] : Array Value)[·]?)).toArray = #[u, v]
  rw [show sliceRange 0 2 1 = [0, 1] by decide]
  rfl
theorem pick_b (u v : Value) : slicePick #[u, v] none none (some (-1)) = #[v, u] := by
  rw [PySem.W.krv_pick]
  rfl
/-! ## a list of two, forwards or backwards by a reckoned step -/
def two (i : Int) (x y : V) : List V := if i = 1 then [x, y] else [y, x]
def tStep (K : PySem.W.Frag) (te ts : TE) : TE := fun σ H Q => te σ H fun v H1 => tPart ts σ H1 fun o H2 => ∃ i : Int, o = some i ∧ ∃ (a : Addr) (x y : V), v = .ref a ∧ (i = 1 ∨ i = -1) ∧ SqL K H2 a [x, y] ∧ ∀ p, H2 p = none → Q (.ref p) (upd H2 p (.lst (two i x y)))
theorem pe_step {X : Cx} {e es : Expr} {te ts : TE} {p3 pos : Pos} (he : PE X e te) (hs : PE X es ts) : PE X (.Subscript e (.Slice none none (some es) p3) pos) (tStep X.K te ts) := by
  constructor
  intro pins s σ H Q I h
  refine Subscript_ (thn (he.run pins s σ H _ I h) fun v s1 z1 => ?_)
  obtain ⟨xv, H1, I1, r1, q1⟩ := z1
  refine wpAny_Slice (thn (po_none.run pins s1 σ H1 (fun o G => o = none ∧ G = H1) I1 ⟨rfl, rfl⟩) fun vl s2 z2 => ?_)
  obtain ⟨l, G2, I2, pl, rfl, rfl⟩ := z2
  refine thn (po_none.run pins s2 σ G2 (fun o G => o = none ∧ G = G2) I2 ⟨rfl, rfl⟩) fun vu s3 z3 => ?_
  obtain ⟨u, G3, I3, pu, rfl, rfl⟩ := z3
  refine thn ((po_some hs).run pins s3 σ G3 _ I3 q1) fun vs s4 z4 => ?_
  obtain ⟨o, G4, I4, pst, i, rfl, a, x, y, rfl, hi, hl, q⟩ := z4
  cases r1
  have I5 : Inv X pins σ G4 { s4 with heap := s4.heap.push { cls := .type "slice", data := .fields #[vl, vu, vs] } } := I4.kept (t' := s4.toks) fun b ob z => Heap.get?_push_of_some _ z
  obtain ⟨its, rel, plain, room⟩ := I5.list hl
  have many : its.length = 2 := rel.length.symm
  show wpAny (model X.prog X.w) X.A (subscriptTail e (.Slice none none (some es) p3) (.ref a) (.ref s4.heap.objs.size)) (EP X pins σ Q) X.xe { s4 with heap := s4.heap.push { cls := .type "slice", data := .fields #[vl, vu, vs] } }
  refine tail_any (ops := [.ref a, .ref s4.heap.objs.size]) plain.isList.typeIs (PySem.slot_list_getitem.lookup) ?_ (by with_unfolding_all rfl)
  refine wpAny_getItem_list_slice plain.isList (Heap.IsSliceOf.new _ vl vu vs) pl pu pst (by rcases hi with rfl | rfl <;> decide) ?_ (by rw [List.size_toArray, many]; decide)
  cases rel with
  | cons ra rel =>
    cases rel with
    | cons rb rel =>
      cases rel
      rcases hi with rfl | rfl
      · rw [pick_f]
        refine ⟨.ref _, _, I5.laid (t' := s4.toks) (o := .lst (two 1 x y)) (fun b ob z => Heap.get?_push_of_some _ z) (Nat.le_refl _) ?_, rfl, q _ (I5.hok.fresh (Nat.le_refl _))⟩
        exact ⟨by show 2 ≤ sizeLine; decide, _, 0, .cons ra (.cons rb .nil), Heap.get?_push_size _ rfl⟩
      · rw [pick_b]
        refine ⟨.ref _, _, I5.laid (t' := s4.toks) (o := .lst (two (-1) x y)) (fun b ob z => Heap.get?_push_of_some _ z) (Nat.le_refl _) ?_, rfl, q _ (I5.hok.fresh (Nat.le_refl _))⟩
        exact ⟨by show 2 ≤ sizeLine; decide, _, 0, .cons rb (.cons ra .nil), Heap.get?_push_size _ rfl⟩
theorem NestV.fresh {G G' : Hp} {p p' : Addr} {us : List V} {Ms : List Lay} (h : NestV (fun _ => none) G p us Ms) (e : Same G G') (n : G' p' = none) : NestV (fun _ => none) (upd G' p' (.lst us)) p' us Ms := by
  have h' := h.same e
  have ne : ∀ (i : Nat) v L, us[i]? = some v → Ms[i]? = some L → ∀ x, v = V.ref x → x ≠ p' := fun i v L a b x q z => by
    have := h'.2.2.1 i v L a b
    cases L with
    | pol ns => obtain ⟨y, q2, q3⟩ := this; rw [q] at q2; cases q2; rw [z, n] at q3; cases q3
    | con w m => obtain ⟨y, q2, q3⟩ := this; rw [q] at q2; cases q2; rw [z, n] at q3; cases q3
  refine ⟨upd_same, h'.2.1, fun i v L a b => (h'.2.2.1 i v L a b).keep fun x q => ne i v L a b x q, fun x hx => ⟨?_, rfl⟩⟩
  obtain ⟨i, hi, e1⟩ := List.getElem_of_mem hx
  have hl : i < Ms.length := by rw [← h'.2.1]; exact hi
  exact ne i _ Ms[i] (List.getElem?_eq_getElem hi) (List.getElem?_eq_getElem hl) x e1
theorem cut_n (xs : List V) (n : Nat) : cutV xs none (some (n : Int)) = xs.take n := by
  unfold cutV
  rw [HT.sIx_none, show HT.sIx xs.length xs.length (some (n : Int)) = min n xs.length from HT.sIx_nat xs.length _ n]
  show (xs.drop 0).take (min n xs.length - 0) = _
  rw [List.drop_zero, Nat.sub_zero]
  by_cases h : n ≤ xs.length
  · rw [Nat.min_eq_left h]
  · rw [Nat.min_eq_right (by omega), List.take_length, List.take_of_length_le (by omega)]
end Rn


namespace Rn
open PySem PySem.Spec PyProof.Rows L2
/-! ## the text -/
def topS (i : Nat) : Stmt := PySem.Challenge.pw_retrynest_k06_whole_constant_layers.main.body.getD i (.Pass ⟨0, 0, 0, 0⟩)
abbrev s_first_negative : Stmt := topS 5
abbrev s_is_valid_layer : Stmt := topS 6
abbrev s_check_nesting : Stmt := topS 7
abbrev s_check_size : Stmt := topS 10
abbrev s_nested : Stmt := topS 11
abbrev s_layer_attempts : Stmt := topS 12
abbrev s_layer_waits : Stmt := topS 13
abbrev s_attempts : Stmt := topS 14
abbrev s_flatten : Stmt := topS 15
abbrev s_law_source : Stmt := topS 17
abbrev s_law_draw : Stmt := topS 18
abbrev s_law_wait_drawn : Stmt := topS 19
abbrev s_law_policy : Stmt := topS 20
abbrev s_law_nesting : Stmt := topS 21
abbrev s_law_rewritten : Stmt := topS 22
abbrev s_law : Stmt := topS 23
theorem sc_first_negative : FnScope ["waits", "index", "wait"] ["waits"] (defScope s_first_negative) := ⟨rfl, rfl, rfl, by decide +kernel, rfl, by decide +kernel, by decide +kernel⟩
theorem sc_is_valid_layer : FnScope ["layer", "wait", "count"] ["layer"] (defScope s_is_valid_layer) := ⟨rfl, rfl, rfl, by decide +kernel, rfl, by decide +kernel, by decide +kernel⟩
theorem sc_check_nesting : FnScope ["nesting", "index", "layer"] ["nesting"] (defScope s_check_nesting) := ⟨rfl, rfl, rfl, by decide +kernel, rfl, by decide +kernel, by decide +kernel⟩
theorem sc_check_size : FnScope ["total"] ["total"] (defScope s_check_size) := ⟨rfl, rfl, rfl, by decide +kernel, rfl, by decide +kernel, by decide +kernel⟩
theorem sc_nested : FnScope ["inner", "outer", "waits", "wait"] ["inner", "outer"] (defScope s_nested) := ⟨rfl, rfl, rfl, by decide +kernel, rfl, by decide +kernel, by decide +kernel⟩
theorem sc_layer_attempts : FnScope ["layer"] ["layer"] (defScope s_layer_attempts) := ⟨rfl, rfl, rfl, by decide +kernel, rfl, by decide +kernel, by decide +kernel⟩
theorem sc_layer_waits : FnScope ["layer", "wait", "count"] ["layer"] (defScope s_layer_waits) := ⟨rfl, rfl, rfl, by decide +kernel, rfl, by decide +kernel, by decide +kernel⟩
theorem sc_attempts : FnScope ["nesting", "total", "layer"] ["nesting"] (defScope s_attempts) := ⟨rfl, rfl, rfl, by decide +kernel, rfl, by decide +kernel, by decide +kernel⟩
theorem sc_flatten : FnScope ["nesting", "waits", "layer"] ["nesting"] (defScope s_flatten) := ⟨rfl, rfl, rfl, by decide +kernel, rfl, by decide +kernel, by decide +kernel⟩
theorem sc_law_source : FnScope ["script", "mix", "digits", "cell", "size"] ["script"] (defScope s_law_source) := ⟨rfl, rfl, rfl, by decide +kernel, rfl, by decide +kernel, by decide +kernel⟩
theorem sc_law_draw : FnScope ["source", "many", "drawn", "mixed"] ["source", "many"] (defScope s_law_draw) := ⟨rfl, rfl, rfl, by decide +kernel, rfl, by decide +kernel, by decide +kernel⟩
theorem sc_law_wait_drawn : FnScope ["source", "some"] ["source"] (defScope s_law_wait_drawn) := ⟨rfl, rfl, rfl, by decide +kernel, rfl, by decide +kernel, by decide +kernel⟩
theorem sc_law_policy : FnScope ["source", "most", "kinds", "found", "k"] ["source", "most"] (defScope s_law_policy) := ⟨rfl, rfl, rfl, by decide +kernel, rfl, by decide +kernel, by decide +kernel⟩
theorem sc_law_nesting : FnScope ["source", "layers", "most", "found", "left", "k", "some", "size"] ["source", "layers", "most"] (defScope s_law_nesting) := ⟨rfl, rfl, rfl, by decide +kernel, rfl, by decide +kernel, by decide +kernel⟩
theorem sc_law_rewritten : FnScope ["source", "layers", "found", "part", "choice", "factors", "factor"] ["source", "layers"] (defScope s_law_rewritten) := ⟨rfl, rfl, rfl, by decide +kernel, rfl, by decide +kernel, by decide +kernel⟩
theorem sc_law : FnScope ["script", "source", "k", "turn", "layers", "other", "wait", "one", "two"] ["script"] (defScope s_law) := ⟨rfl, rfl, rfl, by decide +kernel, rfl, by decide +kernel, by decide +kernel⟩
/-! ## what the top has written -/
structure Txt (K : PySem.W.Frag) (mg : Str → Option Value) where
  f_first_negative : Addr
  d_first_negative : FuncData
  F_first_negative : Fun K "first_negative" "first_negative" s_first_negative f_first_negative d_first_negative
  g_first_negative : mg "first_negative" = some (.ref f_first_negative)
  b_first_negative : Binds K d_first_negative ["waits"] []
  f_is_valid_layer : Addr
  d_is_valid_layer : FuncData
  F_is_valid_layer : Fun K "is_valid_layer" "is_valid_layer" s_is_valid_layer f_is_valid_layer d_is_valid_layer
  g_is_valid_layer : mg "is_valid_layer" = some (.ref f_is_valid_layer)
  b_is_valid_layer : Binds K d_is_valid_layer ["layer"] []
  f_check_nesting : Addr
  d_check_nesting : FuncData
  F_check_nesting : Fun K "check_nesting" "check_nesting" s_check_nesting f_check_nesting d_check_nesting
  g_check_nesting : mg "check_nesting" = some (.ref f_check_nesting)
  b_check_nesting : Binds K d_check_nesting ["nesting"] []
  f_check_size : Addr
  d_check_size : FuncData
  F_check_size : Fun K "check_size" "check_size" s_check_size f_check_size d_check_size
  g_check_size : mg "check_size" = some (.ref f_check_size)
  b_check_size : Binds K d_check_size ["total"] []
  f_nested : Addr
  d_nested : FuncData
  F_nested : Fun K "nested" "nested" s_nested f_nested d_nested
  g_nested : mg "nested" = some (.ref f_nested)
  b_nested : Binds K d_nested ["inner", "outer"] []
  f_layer_attempts : Addr
  d_layer_attempts : FuncData
  F_layer_attempts : Fun K "layer_attempts" "layer_attempts" s_layer_attempts f_layer_attempts d_layer_attempts
  g_layer_attempts : mg "layer_attempts" = some (.ref f_layer_attempts)
  b_layer_attempts : Binds K d_layer_attempts ["layer"] []
  f_layer_waits : Addr
  d_layer_waits : FuncData
  F_layer_waits : Fun K "layer_waits" "layer_waits" s_layer_waits f_layer_waits d_layer_waits
  g_layer_waits : mg "layer_waits" = some (.ref f_layer_waits)
  b_layer_waits : Binds K d_layer_waits ["layer"] []
  f_attempts : Addr
  d_attempts : FuncData
  F_attempts : Fun K "attempts" "attempts" s_attempts f_attempts d_attempts
  g_attempts : mg "attempts" = some (.ref f_attempts)
  b_attempts : Binds K d_attempts ["nesting"] []
  f_flatten : Addr
  d_flatten : FuncData
  F_flatten : Fun K "flatten" "flatten" s_flatten f_flatten d_flatten
  g_flatten : mg "flatten" = some (.ref f_flatten)
  b_flatten : Binds K d_flatten ["nesting"] []
  f_law_source : Addr
  d_law_source : FuncData
  F_law_source : Fun K "_law_source" "_law_source" s_law_source f_law_source d_law_source
  g_law_source : mg "_law_source" = some (.ref f_law_source)
  b_law_source : Binds K d_law_source ["script"] []
  f_law_draw : Addr
  d_law_draw : FuncData
  F_law_draw : Fun K "_law_draw" "_law_draw" s_law_draw f_law_draw d_law_draw
  g_law_draw : mg "_law_draw" = some (.ref f_law_draw)
  b_law_draw : Binds K d_law_draw ["source", "many"] []
  f_law_wait_drawn : Addr
  d_law_wait_drawn : FuncData
  F_law_wait_drawn : Fun K "_law_wait_drawn" "_law_wait_drawn" s_law_wait_drawn f_law_wait_drawn d_law_wait_drawn
  g_law_wait_drawn : mg "_law_wait_drawn" = some (.ref f_law_wait_drawn)
  b_law_wait_drawn : Binds K d_law_wait_drawn ["source"] []
  f_law_policy : Addr
  d_law_policy : FuncData
  F_law_policy : Fun K "_law_policy" "_law_policy" s_law_policy f_law_policy d_law_policy
  g_law_policy : mg "_law_policy" = some (.ref f_law_policy)
  b_law_policy : Binds K d_law_policy ["source", "most"] []
  f_law_nesting : Addr
  d_law_nesting : FuncData
  F_law_nesting : Fun K "_law_nesting" "_law_nesting" s_law_nesting f_law_nesting d_law_nesting
  g_law_nesting : mg "_law_nesting" = some (.ref f_law_nesting)
  b_law_nesting : Binds K d_law_nesting ["source", "layers", "most"] []
  f_law_rewritten : Addr
  d_law_rewritten : FuncData
  F_law_rewritten : Fun K "_law_rewritten" "_law_rewritten" s_law_rewritten f_law_rewritten d_law_rewritten
  g_law_rewritten : mg "_law_rewritten" = some (.ref f_law_rewritten)
  b_law_rewritten : Binds K d_law_rewritten ["source", "layers"] []
  f_law : Addr
  d_law : FuncData
  F_law : Fun K "law" "law" s_law f_law d_law
  g_law : mg "law" = some (.ref f_law)
  b_law : Binds K d_law ["script"] []
  m_enumerate : mg "enumerate" = none
  m_isinstance : mg "isinstance" = none
  m_len : mg "len" = none
  m_list : mg "list" = none
  m_max : mg "max" = none
  m_min : mg "min" = none
  m_range : mg "range" = none
  m_tuple : mg "tuple" = none
  t_MOST_ATTEMPTS : Tok
  c_MOST_ATTEMPTS : mg "MOST_ATTEMPTS" = some (.int 10000 t_MOST_ATTEMPTS)
end Rn
namespace Rn
open PySem PySem.Spec PyProof.Rows L2
section
variable {P : Program} {w : World} {K : PySem.W.Frag} {mg : Str → Option Value} {base : Heap}
/-- where the first negative one stands -/
def negAt (ns : List Int) : V := match ns.findIdx? (fun x => decide (x < 0)) with
  | none => .non
  | some i => .int (i : Nat)
theorem negAt_none {ns : List Int} (h : ∀ x ∈ ns, 0 ≤ x) : negAt ns = .non := by
  unfold negAt
  rw [List.findIdx?_eq_none_iff.mpr fun x hx => decide_eq_false (by have := h x hx; omega)]
def sp_first_negative (K : PySem.W.Frag) : Sp := fun vs H Q _ => ∃ (a : Addr) (ns : List Int), vs = [.ref a] ∧ SqL K H a (ns.map V.int) ∧ ∀ H', Same H H' → Q (negAt ns) H'
theorem ok_first_negative (T : Txt K mg) : FnOk P w K mg base CX0 1 T.f_first_negative T.d_first_negative ["waits"] (sp_first_negative K) := by
  refine T.F_first_negative.ok sc_first_negative (fun vs H Q E h => ?_) (fun cdv A outer s H vs Q E hr h => ?_)
  · obtain ⟨a, ns, rfl, _⟩ := h
    rfl
  obtain ⟨a, ns, rfl, hS, q⟩ := h
  refine ⟨_, (pss_cons (ps_for PassesOwn.never rfl (pi_enum (by rfl) T.m_enumerate (pa_cons (pv 0) pa_nil)) (pg_tup rfl (pgs_cons (pg_name (i := 1) sc_first_negative.nd rfl (Or.inl rfl)) (pgs_cons (pg_name (i := 2) sc_first_negative.nd rfl (Or.inl rfl)) pgs_nil)))
      (pss_one (ps_if (pt_cmpR op_lt (pv 2) pe_int (nomark _))
      (pss_one (ps_ret (pv 1)))
      pss_nil)))
      (pss_one (ps_ret pe_non))), ?_⟩
  -- the walk
  refine ⟨.ref a, rfl, a, ns.map V.int, rfl, hS, for_enum (fun i σ H' => (∃ y1 y2, σ = [some (.ref a), y1, y2]) ∧ Same H H' ∧ ∀ j : Nat, j < i → ∀ x, ns[j]? = some x → 0 ≤ x)
    ⟨⟨none, none, rfl⟩, Same.refl H, fun j hj => absurd hj (Nat.not_lt_zero j)⟩ (fun i σ H' _ h => h.2.1.seq hS) (fun i x σ H' t hx h nt => ?_) (fun σ H' h => ?_)⟩
  · obtain ⟨⟨y1, y2, rfl⟩, sm, hn⟩ := h
    obtain ⟨n, hx', rfl⟩ : ∃ n, ns[i]? = some n ∧ x = .int n := by
      rw [List.getElem?_map] at hx
      cases e : ns[i]? with
      | none => rw [e] at hx; cases hx
      | some n => rw [e] at hx; exact ⟨n, rfl, (Option.some.inj hx).symm⟩
    refine ⟨t, _, rfl, sqt upd_same, rfl, _, _, rfl, _, _, rfl, rfl, ?_⟩
    -- if wait < 0
    refine ⟨_, rfl, _, _, rfl, rfl, _, rfl, ite2 (fun e => ?_) (fun e => ?_)⟩
    · have e' : n < 0 := of_decide_eq_true e
      refine ⟨_, rfl, ?_⟩
      have hf : negAt ns = .int (i : Nat) := by
        unfold negAt
        have hi : i < ns.length := (List.getElem?_eq_some_iff.mp hx').1
        have : ns.findIdx? (fun x => decide (x < 0)) = some i := by
          rw [List.findIdx?_eq_some_iff_getElem]
          refine ⟨hi, ?_, fun j hj => ?_⟩
          · rw [(List.getElem?_eq_some_iff.mp hx').2]
            exact decide_eq_true e'
          · have hjl : j < ns.length := by omega
            have := hn j hj _ (List.getElem?_eq_getElem hjl)
            simp only [decide_eq_true_eq]
            omega
        rw [this]
      have := q (upd H' t (.tup [.int (i : Nat), .int n])) (sm.trans (same_new nt))
      rw [hf] at this
      exact this
    · refine ⟨⟨_, _, rfl⟩, sm.trans (same_new nt), fun j hj x hz => ?_⟩
      by_cases ej : j = i
      · subst ej
        rw [hx'] at hz
        cases hz
        have := of_decide_eq_false (Bool.eq_false_iff.mpr e)
        omega
      · exact hn j (by omega) x hz
  · obtain ⟨⟨y1, y2, rfl⟩, sm, hn⟩ := h
    have e : negAt ns = .non := negAt_none fun x hx => by
      obtain ⟨j, hj, e⟩ := List.getElem_of_mem hx
      exact hn j (by simpa using hj) x (by rw [← e]; exact List.getElem?_eq_getElem hj)
    have := q H' sm
    rw [e] at this
    exact this

end
end Rn
namespace Rn
open PySem PySem.Spec PyProof.Rows L2
section
variable {P : Program} {w : World} {K : PySem.W.Frag} {mg : Str → Option Value} {base : Heap}
def sp_is_valid_layer (K : PySem.W.Frag) : Sp := fun vs H Q _ => ∃ (v : V) (L : Lay), vs = [v] ∧ LayAt H v L ∧ ∀ H', Same H H' → Q (.bl L.ok) H'
theorem negAt_iff (ns : List Int) : decide (negAt ns = .non) = ns.all fun x => decide (0 ≤ x) := by
  by_cases h : ∀ x ∈ ns, 0 ≤ x
  · rw [negAt_none h, decide_eq_true rfl]
    symm
    rw [List.all_eq_true]
    exact fun x hx => decide_eq_true (h x hx)
  · have e : ns.all (fun x => decide (0 ≤ x)) = false := by
      rw [Bool.eq_false_iff]
      intro z
      rw [List.all_eq_true] at z
      exact h fun x hx => of_decide_eq_true (z x hx)
    rw [e]
    unfold negAt
    cases q : ns.findIdx? (fun x => decide (x < 0)) with
    | none =>
      rw [List.findIdx?_eq_none_iff] at q
      exact absurd (fun x hx => by have := of_decide_eq_false (q x hx); omega) h
    | some i => exact decide_eq_false fun z => nomatch z
theorem ok_is_valid_layer (T : Txt K mg) : FnOk P w K mg base CX0 2 T.f_is_valid_layer T.d_is_valid_layer ["layer"] (sp_is_valid_layer K) := by
  have G_first_negative := ok_first_negative (P := P) (w := w) (base := base) T
  refine T.F_is_valid_layer.ok sc_is_valid_layer (fun vs H Q E h => ?_) (fun cdv A outer s H vs Q E hr h => ?_)
  · obtain ⟨v, L, rfl, _⟩ := h
    rfl
  obtain ⟨v, L, rfl, hL, q⟩ := h
  refine ⟨_, (pss_cons (ps_if (pt_val (pe_callB call_isi (by rfl) T.m_isinstance (by decide +kernel) (pa_cons (pv 0) (pa_cons (pe_bltn (v := .ty "tuple") (by rfl) T.m_tuple (by decide +kernel) rfl) pa_nil))))
      (pss_cons (ps_asg (pv 0) (pg_tup rfl (pgs_cons (pg_name (i := 1) sc_is_valid_layer.nd rfl (Or.inl rfl)) (pgs_cons (pg_name (i := 2) sc_is_valid_layer.nd rfl (Or.inl rfl)) pgs_nil))))
      (pss_one (ps_ret (pe_and (pe_cmpR op_ge (pv 1) pe_int (nomark _)) (pe_one (pe_cmpR op_ge (pv 2) pe_int (nomark _)))))))
      pss_nil)
      (pss_one (ps_ret (pe_cmpR op_isN (pe_call G_first_negative hr (by rfl) T.g_first_negative T.F_first_negative.kp T.b_first_negative .nil pass0 (pa_cons (pv 0) pa_nil)) pe_non (nomark _))))), ?_⟩
  cases L with
  | con wt n =>
    obtain ⟨p, rfl, hp⟩ := hL
    refine ⟨_, rfl, _, _, _, _, true, rfl, .ty "tuple", .base (.tup hp), kit_ty (by decide +kernel), true, rfl, iteT ?_⟩
    refine ⟨_, rfl, p, _, rfl, sqt hp, rfl, _, _, rfl, _, _, rfl, rfl, ?_⟩
    refine ⟨_, rfl, _, _, rfl, rfl, _, rfl, ite2 (fun e => ?_) (fun e => ?_)⟩
    · refine ⟨_, rfl, _, _, rfl, rfl, ?_⟩
      have := q H (Same.refl H)
      rw [Lay.ok_con, e, Bool.true_and] at this
      exact this
    · have := q H (Same.refl H)
      rw [Lay.ok_con, Bool.eq_false_iff.mpr e, Bool.false_and] at this
      exact this
  | pol ns =>
    obtain ⟨p, rfl, hp⟩ := hL
    refine ⟨_, rfl, _, _, _, _, false, rfl, .ty "tuple", .base (.lst hp), kit_ty (by decide +kernel), false, rfl, iteF ?_⟩
    refine ⟨_, rfl, p, ns, rfl, sql hp, fun H' sm => ⟨rfl, ?_⟩⟩
    have := q H' sm
    rw [Lay.ok_pol, ← negAt_iff] at this
    exact this

end
end Rn
namespace Rn
open PySem PySem.Spec PyProof.Rows L2
section
variable {P : Program} {w : World} {K : PySem.W.Frag} {mg : Str → Option Value} {base : Heap}
def sp_check_nesting (K : PySem.W.Frag) : Sp := fun vs H Q _ => ∃ (a : Addr) (Ls : List Lay), vs = [.ref a] ∧ NestAt H a Ls ∧ (∀ L ∈ Ls, L.ok = true) ∧ ∀ H', Same H H' → Q .non H'
theorem ok_check_nesting (T : Txt K mg) : FnOk P w K mg base CX0 3 T.f_check_nesting T.d_check_nesting ["nesting"] (sp_check_nesting K) := by
  have G_is_valid_layer := ok_is_valid_layer (P := P) (w := w) (base := base) T
  refine T.F_check_nesting.ok sc_check_nesting (fun vs H Q E h => ?_) (fun cdv A outer s H vs Q E hr h => ?_)
  · obtain ⟨a, Ls, rfl, _⟩ := h
    rfl
  obtain ⟨a, Ls, rfl, hN, hok, q⟩ := h
  refine ⟨_, (pss_one (ps_for PassesOwn.never rfl (pi_enum (by rfl) T.m_enumerate (pa_cons (pv 0) pa_nil)) (pg_tup rfl (pgs_cons (pg_name (i := 1) sc_check_nesting.nd rfl (Or.inl rfl)) (pgs_cons (pg_name (i := 2) sc_check_nesting.nd rfl (Or.inl rfl)) pgs_nil)))
      (pss_one (ps_if (pt_not (pt_val (pe_call G_is_valid_layer hr (by rfl) T.g_is_valid_layer T.F_is_valid_layer.kp T.b_is_valid_layer .nil pass0 (pa_cons (pv 2) pa_nil))))
      (pss_one ps_never)
      pss_nil)))), ?_⟩
  obtain ⟨vs, hv, hl, hat⟩ := id hN
  refine ⟨.ref a, rfl, a, vs, rfl, sql hv, for_enum (fun i σ H' => (∃ y1 y2, σ = [some (.ref a), y1, y2]) ∧ Same H H') ⟨⟨none, none, rfl⟩, Same.refl H⟩ (fun i σ H' _ h => h.2.seq (sql hv)) (fun i x σ H' t hx h nt => ?_) (fun σ H' h => q H' h.2)⟩
  obtain ⟨⟨y1, y2, rfl⟩, sm⟩ := h
  have hi : i < Ls.length := by
    rw [← hl]
    exact (List.getElem?_eq_some_iff.mp hx).1
  have sm1 := sm.trans (same_new (o := .tup [.int (i : Nat), x]) nt)
  refine ⟨t, _, rfl, sqt upd_same, rfl, _, _, rfl, _, _, rfl, rfl, ?_⟩
  refine ⟨_, rfl, x, Ls[i], rfl, (hat i x _ hx (List.getElem?_eq_getElem hi)).same sm1, fun H2 s2 => ?_⟩
  rw [hok _ (List.getElem_mem hi)]
  exact ⟨true, rfl, iteF ⟨⟨_, _, rfl⟩, sm1.trans s2⟩⟩

end
end Rn
namespace Rn
open PySem PySem.Spec PyProof.Rows L2
section
variable {P : Program} {w : World} {K : PySem.W.Frag} {mg : Str → Option Value} {base : Heap}
def sp_check_size (K : PySem.W.Frag) : Sp := fun vs H Q _ => ∃ n : Int, vs = [.int n] ∧ n ≤ 10000 ∧ Q .non H
theorem ok_check_size (T : Txt K mg) : FnOk P w K mg base CX0 1 T.f_check_size T.d_check_size ["total"] (sp_check_size K) := by
  refine T.F_check_size.ok sc_check_size (fun vs H Q E h => ?_) (fun cdv A outer s H vs Q E hr h => ?_)
  · obtain ⟨n, rfl, _⟩ := h
    rfl
  obtain ⟨n, rfl, hn, q⟩ := h
  refine ⟨_, (pss_one (ps_if (pt_cmpR op_gt (pv 0) (pe_glob (v := .int 10000) rfl T.c_MOST_ATTEMPTS ⟨_, rfl⟩) (nomark _))
      (pss_one ps_never)
      pss_nil)), ?_⟩
  refine ⟨_, rfl, _, _, rfl, rfl, _, rfl, ite2 (fun e => ?_) (fun _ => q)⟩
  have := of_decide_eq_true e
  omega

end
end Rn
namespace Rn
open PySem PySem.Spec PyProof.Rows L2
section
variable {P : Program} {w : World} {K : PySem.W.Frag} {mg : Str → Option Value} {base : Heap}
def sp_nested (K : PySem.W.Frag) : Sp := fun vs H Q _ => ∃ (p q : Addr) (xs ys : List V), vs = [.ref p, .ref q] ∧ H p = some (.lst xs) ∧ H q = some (.lst ys) ∧ (xs.length + 1) * (ys.length + 1) ≤ 100000 ∧
  ∀ H' r, Same H H' → H r = none → H' r = some (.lst (nestL xs ys)) → Q (.ref r) H'
theorem ok_nested (T : Txt K mg) : FnOk P w K mg base CX0 1 T.f_nested T.d_nested ["inner", "outer"] (sp_nested K) := by
  refine T.F_nested.ok sc_nested (fun vs H Q E h => ?_) (fun cdv A outer s H vs Q E hr h => ?_)
  · obtain ⟨p, q, xs, ys, rfl, _⟩ := h
    rfl
  obtain ⟨p, q, xs, ys, rfl, hp, hq, hz, k⟩ := h
  refine ⟨_, (pss_cons (ps_set (i := 2) sc_nested.nd rfl (Or.inl rfl) (pe_callTy call_list_of (by rfl) T.m_list (by decide +kernel) (pa_cons (pv 0) pa_nil)))
      (pss_cons (ps_for PassesOwn.never rfl (pi_list (pv 1)) (pg_name (i := 3) sc_nested.nd rfl (Or.inl rfl))
      (pss_cons (ps_expr (pe_bm PySem.F.plainAttrs_list PySem.F.slot_list_append PySem.F.type_list_append mt_append (pv 2) (pa_cons (pv 3) pa_nil)))
      (pss_one (ps_expr (pe_bm PySem.F.plainAttrs_list PySem.F.slot_list_extend PySem.F.type_list_extend mt_extend (pv 2) (pa_cons (pv 0) pa_nil))))))
      (pss_one (ps_ret (pv 2))))), ?_⟩
  refine ⟨_, rfl, p, xs, rfl, .inl (sql hp), fun r hr => ?_⟩
  have np : p ≠ r := ne_of_none hp hr
  have nq : q ≠ r := ne_of_none hq hr
  refine ⟨_, rfl, q, rfl, ⟨ys, sql (by rw [upd_ne nq]; exact hq)⟩, for_list (xs := ys) (fun i σ H' => (∃ y3, σ = [some (.ref p), some (.ref q), some (.ref r), y3]) ∧ Same H H' ∧ H' r = some (.lst (nestL xs (ys.take i))))
    ⟨⟨none, rfl⟩, same_new hr, by rw [upd_same, List.take_zero, nestL_nil]⟩ (fun i σ H' _ h => h.2.1.seq (sql hq)) (fun i x σ H' hx h => ?_) (fun σ H' h => ?_)⟩
  · obtain ⟨⟨y3, rfl⟩, sm, hr'⟩ := h
    have hi : i < ys.length := (List.getElem?_eq_some_iff.mp hx).1
    have e1 := nestL_len xs (ys.take i)
    rw [List.length_take, Nat.min_eq_left (Nat.le_of_lt hi)] at e1
    have e2 : (xs.length + 1) * (i + 1) + (xs.length + 1) ≤ (xs.length + 1) * (ys.length + 1) := by
      rw [← Nat.mul_succ]
      exact Nat.mul_le_mul_left _ (by omega)
    -- waits.append(wait)
    refine ⟨_, rfl, .inl ⟨rfl, _, sql hr'⟩, _, rfl, r, _, _, rfl, rfl, hr', size_lt (by omega), ?_⟩
    -- waits.extend(inner)
    refine ⟨_, rfl, .inl ⟨rfl, _, sql upd_same⟩, _, rfl, r, p, _, xs, rfl, rfl, upd_same, by rw [upd_ne np]; exact sm _ _ hp, size_le (by rw [List.length_append]; show (nestL xs (ys.take i)).length + 1 + xs.length ≤ 100000; omega), ?_⟩
    refine ⟨⟨_, rfl⟩, same_keep (same_keep sm hr) hr, ?_⟩
    rw [upd_same, List.take_add_one, hx]
    unfold nestL
    simp [List.flatMap_append, List.append_assoc]
  · obtain ⟨⟨y3, rfl⟩, sm, hr'⟩ := h
    rw [List.take_length] at hr'
    exact ⟨_, rfl, k H' r sm hr hr'⟩

end
end Rn
namespace Rn
open PySem PySem.Spec PyProof.Rows L2
section
variable {P : Program} {w : World} {K : PySem.W.Frag} {mg : Str → Option Value} {base : Heap}
def sp_layer_attempts (K : PySem.W.Frag) : Sp := fun vs H Q _ => ∃ (v : V) (L : Lay), vs = [v] ∧ LayAt H v L ∧ Q (.int L.cnt) H
theorem ok_layer_attempts (T : Txt K mg) : FnOk P w K mg base CX0 1 T.f_layer_attempts T.d_layer_attempts ["layer"] (sp_layer_attempts K) := by
  refine T.F_layer_attempts.ok sc_layer_attempts (fun vs H Q E h => ?_) (fun cdv A outer s H vs Q E hr h => ?_)
  · obtain ⟨v, L, rfl, _⟩ := h
    rfl
  obtain ⟨v, L, rfl, hL, q⟩ := h
  refine ⟨_, (pss_cons (ps_if (pt_val (pe_callB call_isi (by rfl) T.m_isinstance (by decide +kernel) (pa_cons (pv 0) (pa_cons (pe_bltn (v := .ty "tuple") (by rfl) T.m_tuple (by decide +kernel) rfl) pa_nil))))
      (pss_one (ps_ret (pe_ix ix_tup (pv 0) pe_int (fun _ _ => rfl))))
      pss_nil)
      (pss_one (ps_ret (pe_op op_add (pe_callB call_len_seq (by rfl) T.m_len PySem.boot_len (pa_cons (pv 0) pa_nil)) pe_int)))), ?_⟩
  cases L with
  | con wt n =>
    obtain ⟨p, rfl, hp⟩ := hL
    exact ⟨_, rfl, _, _, _, _, true, rfl, .ty "tuple", .base (.tup hp), kit_ty (by decide +kernel), true, rfl, iteT ⟨_, rfl, p, _, 1, _, rfl, rfl, sqt hp, rfl, q⟩⟩
  | pol ns =>
    obtain ⟨p, rfl, hp⟩ := hL
    refine ⟨_, rfl, _, _, _, _, false, rfl, .ty "tuple", .base (.lst hp), kit_ty (by decide +kernel), false, rfl, iteF ⟨_, rfl, p, _, rfl, .inl (sql hp), _, _, rfl, rfl, ?_⟩⟩
    rw [List.length_map]
    exact q

end
end Rn
namespace Rn
open PySem PySem.Spec PyProof.Rows L2
section
variable {P : Program} {w : World} {K : PySem.W.Frag} {mg : Str → Option Value} {base : Heap}
def sp_layer_waits (K : PySem.W.Frag) : Sp := fun vs H Q _ => ∃ (v : V) (L : Lay), vs = [v] ∧ LayAt H v L ∧ 1 ≤ L.cnt ∧ L.cnt ≤ 20000 ∧
  ∀ H' r, Same H H' → H r = none → H' r = some (.lst (L.waits.map V.int)) → Q (.ref r) H'
theorem ok_layer_waits (T : Txt K mg) : FnOk P w K mg base CX0 1 T.f_layer_waits T.d_layer_waits ["layer"] (sp_layer_waits K) := by
  refine T.F_layer_waits.ok sc_layer_waits (fun vs H Q E h => ?_) (fun cdv A outer s H vs Q E hr h => ?_)
  · obtain ⟨v, L, rfl, _⟩ := h
    rfl
  obtain ⟨v, L, rfl, hL, h1, h2, q⟩ := h
  refine ⟨_, (pss_cons (ps_if (pt_val (pe_callB call_isi (by rfl) T.m_isinstance (by decide +kernel) (pa_cons (pv 0) (pa_cons (pe_bltn (v := .ty "tuple") (by rfl) T.m_tuple (by decide +kernel) rfl) pa_nil))))
      (pss_cons (ps_asg (pv 0) (pg_tup rfl (pgs_cons (pg_name (i := 1) sc_layer_waits.nd rfl (Or.inl rfl)) (pgs_cons (pg_name (i := 2) sc_layer_waits.nd rfl (Or.inl rfl)) pgs_nil))))
      (pss_one (ps_ret (pe_op op_rep (pe_lst (pa_cons (pv 1) pa_nil)) (pe_op op_sub (pv 2) pe_int)))))
      pss_nil)
      (pss_one (ps_ret (pe_callTy call_list_of (by rfl) T.m_list (by decide +kernel) (pa_cons (pv 0) pa_nil))))), ?_⟩
  cases L with
  | con wt n =>
    have h1' : 1 ≤ n := h1
    have h2' : n ≤ 20000 := h2
    obtain ⟨p, rfl, hp⟩ := hL
    refine ⟨_, rfl, _, _, _, _, true, rfl, .ty "tuple", .base (.tup hp), kit_ty (by decide +kernel), true, rfl, iteT ?_⟩
    refine ⟨_, rfl, p, _, rfl, sqt hp, rfl, _, _, rfl, _, _, rfl, rfl, ?_⟩
    refine ⟨_, rfl, size_le (by show 1 ≤ 100000; decide), fun o ho => ?_⟩
    refine ⟨_, rfl, _, _, rfl, rfl, o, n - 1, _, rfl, rfl, upd_same, by omega, by omega, size_le (by simp; omega), fun r hr => ?_⟩
    refine q _ r (same_keep (same_new ho) ?_) ?_ ?_
    · exact (same_new ho).free hr
    · exact (same_new ho).free hr
    · rw [upd_same]
      show _ = some (HO.lst ((List.replicate (n - 1).toNat wt).map V.int))
      rw [List.map_replicate]
      congr 2
      generalize (n - 1).toNat = m
      induction m with
      | zero => rfl
      | succ m ih => rw [List.replicate_succ, List.flatten_cons, ih, List.replicate_succ]; rfl
  | pol ns =>
    obtain ⟨p, rfl, hp⟩ := hL
    refine ⟨_, rfl, _, _, _, _, false, rfl, .ty "tuple", .base (.lst hp), kit_ty (by decide +kernel), false, rfl, iteF ⟨_, rfl, p, _, rfl, .inl (sql hp), fun r hr => ?_⟩⟩
    exact q _ r (same_new hr) hr upd_same

end
end Rn
namespace Rn
open PySem PySem.Spec PyProof.Rows L2
section
variable {P : Program} {w : World} {K : PySem.W.Frag} {mg : Str → Option Value} {base : Heap}
def sp_attempts (K : PySem.W.Frag) : Sp := fun vs H Q _ => ∃ (a : Addr) (Ls : List Lay), vs = [.ref a] ∧ NestAt H a Ls ∧ (∀ L ∈ Ls, L.ok = true ∧ L.cnt < 2 ^ 100) ∧ Ls.length ≤ 5000 ∧ ∀ H', Same H H' → Q (.int (attOf Ls)) H'
theorem ok_attempts (T : Txt K mg) : FnOk P w K mg base CX0 4 T.f_attempts T.d_attempts ["nesting"] (sp_attempts K) := by
  have G_check_nesting := ok_check_nesting (P := P) (w := w) (base := base) T
  have G_layer_attempts := (ok_layer_attempts (P := P) (w := w) (base := base) T).mono (by decide : 1 ≤ 3)
  refine T.F_attempts.ok sc_attempts (fun vs H Q E h => ?_) (fun cdv A outer s H vs Q E hr h => ?_)
  · obtain ⟨a, Ls, rfl, _⟩ := h
    rfl
  obtain ⟨a, Ls, rfl, hN, hok, hz, q⟩ := h
  refine ⟨_, (pss_cons (ps_expr (pe_call G_check_nesting hr (by rfl) T.g_check_nesting T.F_check_nesting.kp T.b_check_nesting .nil pass0 (pa_cons (pv 0) pa_nil)))
      (pss_cons (ps_set (i := 1) sc_attempts.nd rfl (Or.inl rfl) pe_int)
      (pss_cons (ps_for PassesOwn.never rfl (pi_list (pv 0)) (pg_name (i := 2) sc_attempts.nd rfl (Or.inl rfl))
      (pss_one (ps_set (i := 1) sc_attempts.nd rfl (Or.inl rfl) (pe_op op_mulW (pv 1) (pe_call G_layer_attempts hr (by rfl) T.g_layer_attempts T.F_layer_attempts.kp T.b_layer_attempts .nil pass0 (pa_cons (pv 2) pa_nil))))))
      (pss_one (ps_ret (pv 1)))))), ?_⟩
  refine ⟨_, rfl, a, Ls, rfl, hN, fun L hL => (hok L hL).1, fun H1 s1 => ?_⟩
  obtain ⟨vs, hv, hl, hat⟩ := id (hN.same s1)
  refine ⟨_, rfl, a, rfl, ⟨vs, sql hv⟩, for_list (xs := vs) (fun i σ H' => (∃ y2, σ = [some (.ref a), some (.int (attOf (Ls.take i))), y2]) ∧ H' = H1) ⟨⟨none, rfl⟩, rfl⟩ (fun i σ H' _ h => by rw [h.2]; exact sql hv) (fun i x σ H' hx h => ?_) (fun σ H' h => ?_)⟩
  · obtain ⟨⟨y2, rfl⟩, rfl⟩ := h
    have hi : i < Ls.length := by
      rw [← hl]
      exact (List.getElem?_eq_some_iff.mp hx).1
    have hi' := List.getElem?_eq_getElem hi
    obtain ⟨i1, i2⟩ := attOf_lt i (Ls.take i) (by rw [List.length_take]; omega) fun L hL => hok L (List.mem_of_mem_take hL)
    obtain ⟨h1, h2⟩ := hok _ (List.getElem_mem hi)
    have h3 := LayAt.con_pos h1
    refine ⟨_, rfl, _, rfl, x, Ls[i], rfl, hat i x _ hx hi', _, _, rfl, rfl, wide_mul (b := 100) i2 (by omega) (by omega) (by decide) (by omega), ⟨some x, ?_⟩, rfl⟩
    rw [List.take_add_one, hi', Option.toList_some, attOf_snoc]
    rfl
  · obtain ⟨⟨y2, rfl⟩, rfl⟩ := h
    refine ⟨_, rfl, ?_⟩
    rw [hl, List.take_length]
    exact q _ s1

end
end Rn
namespace Rn
open PySem PySem.Spec PyProof.Rows L2
section
variable {P : Program} {w : World} {K : PySem.W.Frag} {mg : Str → Option Value} {base : Heap}
def sp_flatten (K : PySem.W.Frag) : Sp := fun vs H Q _ => ∃ (a : Addr) (Ls : List Lay), vs = [.ref a] ∧ NestAt H a Ls ∧ (∀ L ∈ Ls, L.ok = true) ∧ Ls.length ≤ 5000 ∧ attOf Ls ≤ 10000 ∧
  ∀ H' r, Same H H' → H r = none → H' r = some (.lst ((flatL Ls).map V.int)) → Q (.ref r) H'
theorem ok_flatten (T : Txt K mg) : FnOk P w K mg base CX0 5 T.f_flatten T.d_flatten ["nesting"] (sp_flatten K) := by
  have G_attempts := ok_attempts (P := P) (w := w) (base := base) T
  have G_check_size := (ok_check_size (P := P) (w := w) (base := base) T).mono (by decide : 1 ≤ 4)
  have G_layer_attempts := (ok_layer_attempts (P := P) (w := w) (base := base) T).mono (by decide : 1 ≤ 4)
  have G_layer_waits := (ok_layer_waits (P := P) (w := w) (base := base) T).mono (by decide : 1 ≤ 4)
  have G_nested := (ok_nested (P := P) (w := w) (base := base) T).mono (by decide : 1 ≤ 4)
  refine T.F_flatten.ok sc_flatten (fun vs H Q E h => ?_) (fun cdv A outer s H vs Q E hr h => ?_)
  · obtain ⟨a, Ls, rfl, _⟩ := h
    rfl
  obtain ⟨a, Ls, rfl, hN, hok, hz, hsz, q⟩ := h
  refine ⟨_, (pss_cons (ps_expr (pe_call G_check_size hr (by rfl) T.g_check_size T.F_check_size.kp T.b_check_size .nil pass0 (pa_cons (pe_call G_attempts hr (by rfl) T.g_attempts T.F_attempts.kp T.b_attempts .nil pass0 (pa_cons (pv 0) pa_nil)) pa_nil)))
      (pss_cons (ps_set (i := 1) sc_flatten.nd rfl (Or.inl rfl) (pe_lst pa_nil))
      (pss_cons (ps_for PassesOwn.never rfl (pi_list (pv 0)) (pg_name (i := 2) sc_flatten.nd rfl (Or.inl rfl))
      (pss_one (ps_if (pt_cmpR op_gt (pe_call G_layer_attempts hr (by rfl) T.g_layer_attempts T.F_layer_attempts.kp T.b_layer_attempts .nil pass0 (pa_cons (pv 2) pa_nil)) pe_int (nomark _))
      (pss_one (ps_set (i := 1) sc_flatten.nd rfl (Or.inl rfl) (pe_call G_nested hr (by rfl) T.g_nested T.F_nested.kp T.b_nested .nil pass0 (pa_cons (pv 1) (pa_cons (pe_call G_layer_waits hr (by rfl) T.g_layer_waits T.F_layer_waits.kp T.b_layer_waits .nil pass0 (pa_cons (pv 2) pa_nil)) pa_nil)))))
      pss_nil)))
      (pss_one (ps_ret (pv 1)))))), ?_⟩
  have big : ∀ L ∈ Ls, L.ok = true ∧ L.cnt < 2 ^ 100 := fun L hL => ⟨hok L hL, by have := cnt_le hok hL; omega⟩
  refine ⟨_, rfl, a, Ls, rfl, hN, big, hz, fun H1 s1 => ⟨_, rfl, hsz, ?_⟩⟩
  refine ⟨Nat.zero_le _, fun r hr => ?_⟩
  have s2 : Same H (upd H1 r (.lst [])) := s1.trans (same_new hr)
  have hr0 : H r = none := s1.free hr
  obtain ⟨vs, hv, hl, hat⟩ := id hN
  have na : a ≠ r := ne_of_none hv hr0
  refine ⟨_, rfl, a, rfl, ⟨vs, sql (s2 _ _ hv)⟩, for_list (xs := vs) (fun i σ H' => ∃ p y2, σ = [some (.ref a), some (.ref p), y2] ∧ Same H H' ∧ H p = none ∧ H' p = some (.lst ((flatL (Ls.take i)).map V.int)))
    ⟨r, none, rfl, s2, hr0, upd_same⟩ (fun i σ H' _ h => by obtain ⟨p, y2, _, sm, _⟩ := h; exact sql (sm _ _ hv)) (fun i x σ H' hx h => ?_) (fun σ H' h => ?_)⟩
  · obtain ⟨p, y2, rfl, sm, hp, hp'⟩ := h
    have hi : i < Ls.length := by
      rw [← hl]
      exact (List.getElem?_eq_some_iff.mp hx).1
    have hi' := List.getElem?_eq_getElem hi
    have hx' := (hat i x _ hx hi').same sm
    have hmem := List.getElem_mem hi
    have hc := cnt_le hok hmem
    have h1 := LayAt.con_pos (hok _ hmem)
    have et : Ls.take (i + 1) = Ls.take i ++ [Ls[i]] := by
      rw [List.take_add_one, hi']
      rfl
    have hf : flatL (Ls.take (i + 1)) = if Ls[i].cnt > 1 then nestL (flatL (Ls.take i)) Ls[i].waits else flatL (Ls.take i) := by
      rw [et, flatL_snoc]
    have hlen : ((flatL (Ls.take (i + 1))).length : Int) + 1 ≤ 10000 := by
      rw [flatL_len _ _ rfl fun L hL => hok L (List.mem_of_mem_take hL)]
      have := (attOf_part (Ls.take (i + 1)) (Ls.drop (i + 1)) (fun L hL => hok L (List.mem_of_mem_drop hL)) fun L hL => hok L (List.mem_of_mem_take hL)).2
      rw [List.take_append_drop] at this
      omega
    refine ⟨_, rfl, x, Ls[i], rfl, hx', _, _, rfl, rfl, _, rfl, ite2 (fun e => ?_) (fun e => ?_)⟩
    · have e' := of_decide_eq_true e
      rw [if_pos (show Ls[i].cnt > 1 from e')] at hf
      have hnl := nestL_len (flatL (Ls.take i)) Ls[i].waits
      rw [← hf] at hnl
      refine ⟨_, rfl, _, rfl, x, Ls[i], rfl, hx', h1, by omega, fun H2 u s2 hu hu2 => ?_⟩
      refine ⟨p, u, _, _, rfl, s2 _ _ hp', hu2, by rw [List.length_map, List.length_map]; omega, fun H3 t s3 ht ht3 => ?_⟩
      exact ⟨t, _, rfl, (sm.trans s2).trans s3, (sm.trans s2).free ht, by rw [ht3, hf, nestL_map]⟩
    · have e' := of_decide_eq_false (Bool.eq_false_iff.mpr e)
      rw [if_neg (show ¬ Ls[i].cnt > 1 from e')] at hf
      exact ⟨p, _, rfl, sm, hp, by rw [hf]; exact hp'⟩
  · obtain ⟨p, y2, rfl, sm, hp, hp'⟩ := h
    rw [hl, List.take_length] at hp'
    exact ⟨_, rfl, q H' p sm hp hp'⟩

end
end Rn
namespace Rn
open PySem PySem.Spec PyProof.Rows L2
section
variable {P : Program} {w : World} {K : PySem.W.Frag} {mg : Str → Option Value} {base : Heap}
def sp_law_source (K : PySem.W.Frag) : Sp := fun vs H Q _ => ∃ (a : Addr) (ns : List Int), vs = [.ref a] ∧ SqL K H a (ns.map V.int) ∧ ns.length ≤ 63 ∧
  ∀ H' p d, Same H H' → H p = none → H d = none → Src H' p d 0 → Q (.ref p) H'
theorem ok_law_source (T : Txt K mg) : FnOk P w K mg base CX0 1 T.f_law_source T.d_law_source ["script"] (sp_law_source K) := by
  refine T.F_law_source.ok sc_law_source (fun vs H Q E h => ?_) (fun cdv A outer s H vs Q E hr h => ?_)
  · obtain ⟨a, ns, rfl, _⟩ := h
    rfl
  obtain ⟨a, ns, rfl, hS, hl, q⟩ := h
  refine ⟨_, (pss_cons (ps_set (i := 1) sc_law_source.nd rfl (Or.inl rfl) pe_int)
      (pss_cons (ps_set (i := 2) sc_law_source.nd rfl (Or.inl rfl) (pe_lst pa_nil))
      (pss_cons (ps_for PassesOwn.never rfl (pi_list (pv 0)) (pg_name (i := 3) sc_law_source.nd rfl (Or.inl rfl))
      (pss_cons (ps_set (i := 1) sc_law_source.nd rfl (Or.inl rfl) (pe_op op_mod (pe_op op_add (pe_op op_mul (pv 1) pe_int) (pv 3)) (pe_op op_sub (pe_op op_pow pe_int pe_int) pe_int)))
      (pss_cons (ps_set (i := 4) sc_law_source.nd rfl (Or.inl rfl) (pe_callB (call_max2 rfl) (by rfl) T.m_max (by decide +kernel) (pa_cons (pv 3) (pa_cons (pe_op op_sub pe_int (pv 3)) pa_nil))))
      (pss_one (ps_if (pt_cmpR op_ge (pv 4) (pe_op op_pow pe_int pe_int) (nomark _))
      (pss_one (ps_expr (pe_bm PySem.F.plainAttrs_list PySem.F.slot_list_append PySem.F.type_list_append mt_append (pv 2) (pa_cons (pe_op op_sub (pv 4) (pe_op op_pow pe_int pe_int)) pa_nil))))
      pss_nil)))))
      (pss_one (ps_ret (pe_lst (pa_cons (pv 2) (pa_cons pe_int (pa_cons (pv 1) (pa_cons pe_int pa_nil)))))))))), ?_⟩
  refine ⟨Nat.zero_le _, fun d hd => ?_⟩
  refine ⟨_, rfl, a, rfl, ⟨_, (same_new hd).seq hS⟩, for_list (xs := ns.map V.int) (fun i σ H' => ∃ mix y3 y4 ds, σ = [some (.ref a), some (.int mix), some (.ref d), y3, y4] ∧ 0 ≤ mix ∧ mix < 2305843009213693951 ∧ Same H H' ∧ H' d = some (.lst ((ds : List Int).map V.int)) ∧ ds.length ≤ i)
    ⟨271828182845904, none, none, [], rfl, by decide, by decide, same_new hd, upd_same, Nat.le_refl _⟩ (fun i σ H' _ h => by obtain ⟨_, _, _, _, _, _, _, sm, _⟩ := h; exact sm.seq hS) (fun i x σ H' hx h => ?_) (fun σ H' h => ?_)⟩
  · obtain ⟨mix, y3, y4, ds, rfl, m0, m1, sm, hds, hdl⟩ := h
    have hi : i < 63 := by
      have := (List.getElem?_eq_some_iff.mp hx).1
      rw [List.length_map] at this
      omega
    obtain ⟨n, rfl⟩ : ∃ n, x = .int n := by
      rw [List.getElem?_map] at hx
      cases e : ns[i]? with
      | none => rw [e] at hx; cases hx
      | some n => rw [e] at hx; exact ⟨n, (Option.some.inj hx).symm⟩
    have pm : (0 : Int) < 2 ^ (61 : Int).toNat - 1 := by decide
    have pe : (2 : Int) ^ (61 : Int).toNat - 1 = 2305843009213693951 := by decide
    -- mix = ..
    refine ⟨_, rfl, _, _, rfl, rfl, .inl ⟨by omega, by omega⟩, _, rfl, _, _, rfl, rfl, _, _, rfl, rfl, ⟨by decide, by decide, by decide⟩, _, _, rfl, rfl, _, _, rfl, rfl, pm, ?_⟩
    -- size = max(cell, 0 - cell)
    refine ⟨_, rfl, _, rfl, _, _, rfl, rfl, _, _, rfl, ?_⟩
    have b1 := Int.emod_nonneg (mix * 1000033 + n) (show (2 : Int) ^ (61 : Int).toNat - 1 ≠ 0 by decide)
    have b2 := Int.emod_lt_of_pos (mix * 1000033 + n) pm
    rw [pe] at b2
    -- if size >= 10 ** 18
    refine ⟨_, rfl, _, _, rfl, rfl, ⟨by decide, by decide, by decide⟩, _, _, rfl, rfl, _, rfl, ite2 (fun e => ?_) (fun e => ?_)⟩
    · refine ⟨_, rfl, .inl ⟨rfl, _, sql hds⟩, _, rfl, _, _, rfl, rfl, ⟨by decide, by decide, by decide⟩, _, _, rfl, rfl, d, _, _, rfl, rfl, hds, size_lt (by rw [List.length_map]; omega), ?_⟩
      refine ⟨_, _, _, ds ++ [_], rfl, b1, b2, same_keep sm hd, by rw [upd_same, List.map_append]; rfl, by rw [List.length_append]; exact Nat.succ_le_succ hdl⟩
    · exact ⟨_, _, _, ds, rfl, b1, b2, sm, hds, Nat.le_succ_of_le hdl⟩
  · obtain ⟨mix, y3, y4, ds, rfl, m0, m1, sm, hds, hdl⟩ := h
    refine ⟨_, rfl, _, rfl, size_le (by show 4 ≤ 100000; decide), fun p hp => ?_⟩
    refine q _ p d (sm.trans (same_new hp)) (sm.free hp) hd ⟨0, mix, 0, ds, upd_same, ?_, m0, m1, by decide, by decide⟩
    rw [upd_ne (ne_of_none hds hp)]
    exact hds

end
end Rn
namespace Rn
open PySem PySem.Spec PyProof.Rows L2
section
variable {P : Program} {w : World} {K : PySem.W.Frag} {mg : Str → Option Value} {base : Heap}
def sp_law_draw (K : PySem.W.Frag) : Sp := fun vs H Q _ => ∃ (a d : Addr) (n many : Int), vs = [.ref a, .int many] ∧ Src H a d n ∧ n ≤ 1000000000000000 ∧ 0 < many ∧ many < 2 ^ 100 ∧
  ∀ H' r, Adv a d 1 H H' → 0 ≤ r → r < many → Q (.int r) H'
theorem ok_law_draw (T : Txt K mg) : FnOk P w K mg base CX0 1 T.f_law_draw T.d_law_draw ["source", "many"] (sp_law_draw K) := by
  refine T.F_law_draw.ok sc_law_draw (fun vs H Q E h => ?_) (fun cdv A outer s H vs Q E hr h => ?_)
  · obtain ⟨a, d, n, many, rfl, _⟩ := h
    rfl
  obtain ⟨a, d, n, many, rfl, hS, hn, hm0, hm1, q⟩ := h
  refine ⟨_, (pss_cons (ps_while PassesOwn.never (PW.pt (pw_and (pt_cmpR op_lt (pe_ix ix_list (pv 0) pe_int (fun _ _ => rfl)) pe_int (nomark _)) (pw_and1 (pt_cmpR (op_neD hr.units) (pe_ix ix_list (pv 0) pe_int (fun _ _ => rfl)) (pe_lst pa_nil) (nomark _)))))
      (pss_one (ps_asg (pe_bm PySem.F.plainAttrs_list PySem.F.slot_list_pop PySem.F.type_list_pop mt_popAt (pe_ix ix_list (pv 0) pe_int (fun _ _ => rfl)) (pa_cons pe_int pa_nil)) (pg_sub (pv 0) pe_int set_list))))
      (pss_cons (ps_if (pt_cmpR op_ge (pe_ix ix_list (pv 0) pe_int (fun _ _ => rfl)) pe_int (nomark _))
      (pss_cons (ps_set (i := 2) sc_law_draw.nd rfl (Or.inl rfl) (pe_op op_mod (pe_ix ix_list (pv 0) pe_int (fun _ _ => rfl)) (pv 1)))
      (pss_cons (ps_asg (pe_op op_fdivW (pe_ix ix_list (pv 0) pe_int (fun _ _ => rfl)) (pv 1)) (pg_sub (pv 0) pe_int set_list))
      (pss_one (ps_ret (pv 2)))))
      pss_nil)
      (pss_cons (ps_asg (pe_op op_add (pe_ix ix_list (pv 0) pe_int (fun _ _ => rfl)) pe_int) (pg_sub (pv 0) pe_int set_list))
      (pss_cons (ps_set (i := 3) sc_law_draw.nd rfl (Or.inl rfl) (pe_op op_mul (pe_op op_add (pe_ix ix_list (pv 0) pe_int (fun _ _ => rfl)) pe_int) (pe_op op_pow (pe_op op_add (pe_ix ix_list (pv 0) pe_int (fun _ _ => rfl)) pe_int) pe_int)))
      (pss_cons (ps_set (i := 3) sc_law_draw.nd rfl (Or.inl rfl) (pe_op op_mod (pe_op op_add (pv 3) (pe_op op_mul pe_int (pe_ix ix_list (pv 0) pe_int (fun _ _ => rfl)))) (pe_op op_sub (pe_op op_pow pe_int pe_int) pe_int)))
      (pss_one (ps_ret (pe_op op_mod (pe_op op_fdivW (pe_op op_mod (pe_op op_pow (pv 3) pe_int) (pe_op op_add (pe_op op_pow pe_int pe_int) pe_int)) pe_int) (pv 1))))))))), ?_⟩
  have had := hS.ne
  obtain ⟨cur, mix, cnt, ds, ha, hd, m0, m1, c0, c1⟩ := hS
  have hda := had.symm
  -- the digits' loop
  refine ⟨fun m σ H' => ∃ cu es, σ = [some (.ref a), some (.int many), none, none] ∧ H' a = some (.lst [.ref d, .int cu, .int mix, .int cnt]) ∧ H' d = some (.lst ((es : List Int).map V.int)) ∧ es.length = m ∧ Same (hid a d H) (hid a d H'),
    ⟨ds.length, cur, ds, rfl, ha, hd, rfl, Same.refl _⟩, fun m σ H1 hW => ?_⟩
  obtain ⟨cu, es, rfl, ha1, hd1, hl1, sm1⟩ := hW
  have hp3 : (0 : Int) < 2 ^ (61 : Int).toNat - 1 := by decide
  have hp3e : (2 : Int) ^ (61 : Int).toNat - 1 = 2305843009213693951 := by decide
  have hp4 : (0 : Int) < 10 ^ (18 : Int).toNat + 9 := by decide
  -- source[1] < 2
  refine ⟨_, rfl, a, _, 1, _, rfl, rfl, sql ha1, rfl, _, _, rfl, rfl, _, rfl, ite2 (fun e => ?_) (fun e => ?_)⟩
  · -- source[0] != []
    refine ⟨_, rfl, a, _, 0, _, rfl, rfl, sql ha1, rfl, Nat.zero_le _, fun o ho => ?_⟩
    have no : o ≠ a ∧ o ≠ d := ⟨(ne_of_none ha1 ho).symm, (ne_of_none hd1 ho).symm⟩
    have ha2 : (upd H1 o (.lst [])) a = some (.lst [.ref d, .int cu, .int mix, .int cnt]) := by rw [upd_ne no.1.symm]; exact ha1
    have hd2 : (upd H1 o (.lst [])) d = some (.lst (es.map V.int)) := by rw [upd_ne no.2.symm]; exact hd1
    have sm2 : Same (hid a d H) (hid a d (upd H1 o (.lst []))) := sm1.trans (hid_same (same_new ho))
    refine ⟨dInts es, dInts [], dp_ints (sql hd2), dp_nil (sql upd_same), shaped_ints _, shaped_ints _, _, rfl, ?_⟩
    rw [eqv_ints]
    generalize upd H1 o (.lst []) = H2 at *
    cases es with
    | cons x r =>
      refine iteT ⟨fun σ' H' => ∃ cu, σ' = [some (.ref a), some (.int many), none, none] ∧ H' a = some (.lst [.ref d, .int cu, .int mix, .int cnt]) ∧ H' d = some (.lst (r.map V.int)) ∧ Same (hid a d H) (hid a d H'),
        fun σ' H' hN => ?_, ?_⟩
      · obtain ⟨cu', e1, e2, e3, e4⟩ := hN
        exact ⟨r.length, by rw [← hl1]; exact Nat.lt_succ_self _, cu', r, e1, e2, e3, rfl, e4⟩
      · refine ⟨_, rfl, a, _, 0, _, rfl, rfl, sql ha2, rfl, .inl ⟨rfl, _, sql hd2⟩, d, _, 0, 0, .int x, rfl, rfl, hd2, by decide, by decide, ?_, rfl, ?_⟩
        · unfold seqIndex?
          simp
        refine ⟨_, rfl, a, _, 1, 1, rfl, rfl, by rw [upd_ne had]; exact ha2, rfl, x, rfl, upd_same, ?_, ?_⟩
        · rw [upd_ne hda, upd_same]
          rfl
        · rw [hid_src1, hid_src2]
          exact sm2
    | nil =>
      refine iteF ?_
      -- if source[1] >= 2
      refine ⟨_, rfl, a, _, 1, _, rfl, rfl, sql ha2, rfl, _, _, rfl, rfl, _, rfl, ite2 (fun e2 => ?_) (fun _ => ?_)⟩
      · have x1 := of_decide_eq_true e
        have x2 := of_decide_eq_true e2
        omega
      refine ⟨_, rfl, a, _, 3, _, rfl, rfl, sql ha2, rfl, _, _, rfl, rfl, _, rfl, a, _, 3, 3, rfl, rfl, ha2, rfl, ?_⟩
      have ha3 : (upd H2 a (.lst [.ref d, .int cu, .int mix, .int (cnt + 1)])) a = some (.lst [.ref d, .int cu, .int mix, .int (cnt + 1)]) := upd_same
      have hd3 : (upd H2 a (.lst [.ref d, .int cu, .int mix, .int (cnt + 1)])) d = some (.lst (([] : List Int).map V.int)) := by rw [upd_ne hda]; exact hd2
      have sm3 : Same (hid a d H) (hid a d (upd H2 a (.lst [.ref d, .int cu, .int mix, .int (cnt + 1)]))) := by rw [hid_src1]; exact sm2
      show tSeq _ _ _ _ (upd H2 a (.lst [.ref d, .int cu, .int mix, .int (cnt + 1)]))
      generalize upd H2 a (.lst [.ref d, .int cu, .int mix, .int (cnt + 1)]) = H3 at *
      refine ⟨_, rfl, a, _, 2, _, rfl, rfl, sql ha3, rfl, _, _, rfl, rfl, _, rfl, a, _, 3, _, rfl, rfl, sql ha3, rfl, _, _, rfl, rfl, _, _, rfl, rfl, ⟨by decide, by decide, by omega⟩, _, _, rfl, rfl, .inl ⟨by omega, by omega⟩, ?_⟩
      refine ⟨_, rfl, _, rfl, a, _, 3, _, rfl, rfl, sql ha3, rfl, _, _, rfl, rfl, .inl ⟨by decide, by decide⟩, _, _, rfl, rfl, _, _, rfl, rfl, ⟨by decide, by decide, by decide⟩, _, _, rfl, rfl, _, _, rfl, rfl, hp3, ?_⟩
      have b1 := Int.emod_nonneg ((mix + 7) * (cnt + 1 + 3) ^ (3 : Int).toNat + 1000081 * (cnt + 1)) (show (2 : Int) ^ (61 : Int).toNat - 1 ≠ 0 by decide)
      have b2 := Int.emod_lt_of_pos ((mix + 7) * (cnt + 1 + 3) ^ (3 : Int).toNat + 1000081 * (cnt + 1)) hp3
      refine ⟨_, rfl, _, _, rfl, rfl, ⟨by decide, by decide, small64 b1 b2 (by decide)⟩, _, _, rfl, rfl, ⟨by decide, by decide, by decide⟩, _, _, rfl, rfl, _, _, rfl, rfl, hp4, _, _, rfl, rfl, wide_div (b := 8) (by decide) (by decide) (by decide) (by decide), _, rfl, _, _, rfl, rfl, hm0, ?_⟩
      exact q H3 _ (Adv.made sm3 ha ha3 hd3 (by omega) (by omega)) (Int.emod_nonneg _ (by omega)) (Int.emod_lt_of_pos _ hm0)
  · -- a digit is left
    refine iteF ?_
    refine ⟨_, rfl, a, _, 1, _, rfl, rfl, sql ha1, rfl, _, _, rfl, rfl, _, rfl, ite2 (fun e2 => ?_) (fun e2 => ?_)⟩
    · refine ⟨_, rfl, a, _, 1, _, rfl, rfl, sql ha1, rfl, _, rfl, _, _, rfl, rfl, hm0, ?_⟩
      refine ⟨_, rfl, a, _, 1, _, rfl, rfl, sql ha1, rfl, _, rfl, _, _, rfl, rfl, wide_div (b := 100) hm0 (by omega) (by decide) (by decide), _, rfl, a, _, 1, 1, rfl, rfl, ha1, rfl, ?_⟩
      refine ⟨_, rfl, q _ _ (Adv.made (cur' := cu / many) (cnt' := cnt) (ds' := es) ?_ ha upd_same ?_ (by omega) (by omega)) (Int.emod_nonneg _ (by omega)) (Int.emod_lt_of_pos _ hm0)⟩
      · rw [hid_src1]
        exact sm1
      · rw [upd_ne hda]
        exact hd1
    · have x1 := of_decide_eq_false (Bool.eq_false_iff.mpr e)
      have x2 := of_decide_eq_false (Bool.eq_false_iff.mpr e2)
      omega

end
end Rn
namespace Rn
open PySem PySem.Spec PyProof.Rows L2
section
variable {P : Program} {w : World} {K : PySem.W.Frag} {mg : Str → Option Value} {base : Heap}
def sp_law_wait_drawn (K : PySem.W.Frag) : Sp := fun vs H Q _ => ∃ (a d : Addr) (n : Int), vs = [.ref a] ∧ Src H a d n ∧ n ≤ 100000000000000 ∧
  ∀ H' r, Adv a d 4 H H' → 0 ≤ r → r < 1000000000000 → Q (.int r) H'
theorem ok_law_wait_drawn (T : Txt K mg) : FnOk P w K mg base CX0 2 T.f_law_wait_drawn T.d_law_wait_drawn ["source"] (sp_law_wait_drawn K) := by
  have G_law_draw := ok_law_draw (P := P) (w := w) (base := base) T
  refine T.F_law_wait_drawn.ok sc_law_wait_drawn (fun vs H Q E h => ?_) (fun cdv A outer s H vs Q E hr h => ?_)
  · obtain ⟨a, d, n, rfl, _⟩ := h
    rfl
  obtain ⟨a, d, n, rfl, hS, hn, q⟩ := h
  refine ⟨_, (pss_cons (ps_set (i := 1) sc_law_wait_drawn.nd rfl (Or.inl rfl) (pe_lst (pa_cons pe_int (pa_cons pe_int (pa_cons (pe_call G_law_draw hr (by rfl) T.g_law_draw T.F_law_draw.kp T.b_law_draw .nil pass0 (pa_cons (pv 0) (pa_cons pe_int pa_nil))) (pa_cons (pe_call G_law_draw hr (by rfl) T.g_law_draw T.F_law_draw.kp T.b_law_draw .nil pass0 (pa_cons (pv 0) (pa_cons pe_int pa_nil))) (pa_cons (pe_op op_sub (pe_op op_sub (pe_op op_pow pe_int pe_int) pe_int) (pe_call G_law_draw hr (by rfl) T.g_law_draw T.F_law_draw.kp T.b_law_draw .nil pass0 (pa_cons (pv 0) (pa_cons pe_int pa_nil)))) pa_nil)))))))
      (pss_one (ps_ret (pe_ix ix_list (pv 1) (pe_call G_law_draw hr (by rfl) T.g_law_draw T.F_law_draw.kp T.b_law_draw .nil pass0 (pa_cons (pv 0) (pa_cons pe_int pa_nil))) (fun _ _ => rfl))))), ?_⟩
  refine ⟨_, rfl, a, d, n, 3, rfl, hS, by omega, by decide, by decide, fun H1 r1 A1 l1 u1 => ?_⟩
  have S1 := A1.src n hS
  refine ⟨_, rfl, a, d, n + 1, 100, rfl, S1, by omega, by decide, by decide, fun H2 r2 A2 l2 u2 => ?_⟩
  have S2 := A2.src _ S1
  refine ⟨_, _, rfl, rfl, ⟨by decide, by decide, by decide⟩, _, _, rfl, rfl, _, rfl, a, d, n + 1 + 1, 9, rfl, S2, by omega, by decide, by decide, fun H3 r3 A3 l3 u3 => ?_⟩
  have S3 := A3.src _ S2
  refine ⟨_, _, rfl, rfl, size_le (by show 5 ≤ 100000; decide), fun o ho => ?_⟩
  have A4 : Adv a d 3 H (upd H3 o (.lst [.int 0, .int 1, .int r1, .int r2, .int (10 ^ (12 : Int).toNat - 1 - r3)])) := ((A1.trans A2 (Int.le_refl _)).trans A3 (Int.le_refl _)).trans (Adv.of (same_new ho)) (by decide)
  have no := S3.new1 ho
  have S4 : Src (upd H3 o (.lst [.int 0, .int 1, .int r1, .int r2, .int (10 ^ (12 : Int).toNat - 1 - r3)])) a d (n + 1 + 1 + 1) := S3.keep no.1 no.2
  have ho4 : hid a d (upd H3 o (.lst [.int 0, .int 1, .int r1, .int r2, .int (10 ^ (12 : Int).toNat - 1 - r3)])) o = some (.lst ([0, 1, r1, r2, 10 ^ (12 : Int).toNat - 1 - r3].map V.int)) := by
    rw [hid_oth no.1 no.2, upd_same]
    rfl
  -- some[..]
  refine ⟨_, rfl, _, rfl, a, d, n + 1 + 1 + 1, 5, rfl, S4, by omega, by decide, by decide, fun H5 r5 A5 l5 u5 => ?_⟩
  obtain ⟨x, hx, _, hat⟩ := at_int (ns := [0, 1, r1, r2, 10 ^ (12 : Int).toNat - 1 - r3]) l5 u5
  have hb : 0 ≤ x ∧ x < 1000000000000 := by
    have pw : (10 : Int) ^ (12 : Int).toNat = 1000000000000 := by decide
    rw [pw] at hx
    simp only [List.mem_cons, List.not_mem_nil, or_false] at hx
    omega
  exact ⟨o, _, r5, .int x, rfl, rfl, sql (hid_get (A5.same _ _ ho4)).1, hat, q H5 x (A4.trans A5 (by decide)) hb.1 hb.2⟩

end
end Rn
namespace Rn
open PySem PySem.Spec PyProof.Rows L2
section
variable {P : Program} {w : World} {K : PySem.W.Frag} {mg : Str → Option Value} {base : Heap}
def sp_law_policy (K : PySem.W.Frag) : Sp := fun vs H Q _ => ∃ (a d : Addr) (n most : Int), vs = [.ref a, .int most] ∧ Src H a d n ∧ n ≤ 10000000000000 ∧ 0 ≤ most ∧ most ≤ 1000 ∧
  ∀ H' p ws, Adv a d (20 + 6 * most) H H' → H p = none → hid a d H' p = some (.lst ((ws : List Int).map V.int)) → (ws.length : Int) ≤ most → (∀ x ∈ ws, 0 ≤ x ∧ x < 1000000000000) → Q (.ref p) H'
theorem ok_law_policy (T : Txt K mg) : FnOk P w K mg base CX0 3 T.f_law_policy T.d_law_policy ["source", "most"] (sp_law_policy K) := by
  have G_law_draw := (ok_law_draw (P := P) (w := w) (base := base) T).mono (by decide : 1 ≤ 2)
  have G_law_wait_drawn := ok_law_wait_drawn (P := P) (w := w) (base := base) T
  refine T.F_law_policy.ok sc_law_policy (fun vs H Q E h => ?_) (fun cdv A outer s H vs Q E hr h => ?_)
  · obtain ⟨a, d, n, most, rfl, _⟩ := h
    rfl
  obtain ⟨a, d, n, most, rfl, hS, hn, hm0, hm1, q⟩ := h
  refine ⟨_, (pss_cons (ps_setLc (i := 2) (own := [("k", 4)]) (g := gName 4) (tt := tYes) rfl sc_law_policy.nd rfl rfl (sw_true rfl rfl rfl (by decide +kernel)) (pi_range1 (by rfl) T.m_range (pa_cons (pe_op op_add pe_int (pe_call G_law_draw hr (by rfl) T.g_law_draw T.F_law_draw.kp T.b_law_draw .nil pass0 (pa_cons (pv 0) (pa_cons pe_int pa_nil)))) pa_nil)) (blkOk_by (N := ["source", "most", "kinds", "found", "k"]) (sc := defScope s_law_policy) (by decide +kernel)) (fun _ _ _ _ _ => (pg_name (i := 4) sc_law_policy.nd rfl (Or.inl rfl))) (fun _ _ _ _ _ => pts_nil) (fun _ _ _ _ _ => (pe_call G_law_wait_drawn hr (by rfl) T.g_law_wait_drawn T.F_law_wait_drawn.kp T.b_law_wait_drawn .nil pass0 (pa_cons (pv 0) pa_nil))))
      (pss_cons (ps_set (i := 3) sc_law_policy.nd rfl (Or.inl rfl) (pe_lst pa_nil))
      (pss_cons (ps_for PassesOwn.never rfl (pi_range1 (by rfl) T.m_range (pa_cons (pe_call G_law_draw hr (by rfl) T.g_law_draw T.F_law_draw.kp T.b_law_draw .nil pass0 (pa_cons (pv 0) (pa_cons (pe_op op_add (pv 1) pe_int) pa_nil))) pa_nil)) (pg_name (i := 4) sc_law_policy.nd rfl (Or.inl rfl))
      (pss_one (ps_expr (pe_bm PySem.F.plainAttrs_list PySem.F.slot_list_append PySem.F.type_list_append mt_append (pv 3) (pa_cons (pe_ifExp (pt_cmpR op_gt (pe_call G_law_draw hr (by rfl) T.g_law_draw T.F_law_draw.kp T.b_law_draw .nil pass0 (pa_cons (pv 0) (pa_cons pe_int pa_nil))) pe_int (nomark _)) (pe_ix ix_list (pv 2) (pe_call G_law_draw hr (by rfl) T.g_law_draw T.F_law_draw.kp T.b_law_draw .nil pass0 (pa_cons (pv 0) (pa_cons (pe_callB call_len_seq (by rfl) T.m_len PySem.boot_len (pa_cons (pv 2) pa_nil)) pa_nil))) (fun _ _ => rfl)) (pe_call G_law_wait_drawn hr (by rfl) T.g_law_wait_drawn T.F_law_wait_drawn.kp T.b_law_wait_drawn .nil pass0 (pa_cons (pv 0) pa_nil))) pa_nil)))))
      (pss_one (ps_ret (pv 3)))))), ?_⟩
  -- kinds
  refine ⟨_, rfl, a, d, n, 3, rfl, hS, by omega, by decide, by decide, fun H1 r1 A1 l1 u1 => ?_⟩
  have S1 := A1.src n hS
  refine ⟨_, _, rfl, rfl, _, rfl, by omega, by omega, fun D hD => ?_⟩
  have hD0 : hid a d H1 D = none := hid_none hD
  have nD := S1.new1 hD
  refine lc_range (lo := 0) (n := (1 + r1).toNat) (fun i H' => ∃ ks : List Int, hid a d H' D = some (.lst (ks.map V.int)) ∧ ks.length = i ∧ (∀ x ∈ ks, 0 ≤ x ∧ x < 1000000000000) ∧ Adv a d (1 + 4 * i) H H')
    ⟨[], by rw [hid_oth nD.1 nD.2, upd_same]; rfl, rfl, (fun _ z => nomatch z), (A1.trans (Adv.of (same_new hD)) (Int.le_refl _)).mono (by omega)⟩ (fun i H2 hi h => ?_) (fun H2 h => ?_)
  · obtain ⟨ks, hk, hkl, hkb, A2⟩ := h
    have S2 := A2.src n hS
    refine ⟨rfl, _, rfl, a, d, n + (1 + 4 * i), rfl, S2, by omega, fun H3 x A3 l3 u3 => ?_⟩
    have hk3 := A3.same _ _ hk
    have S3 := A3.src _ S2
    refine ⟨_, (hid_get hk3).1, size_lt (by rw [List.length_map]; omega), ks ++ [x], ?_, by rw [List.length_append, hkl]; rfl, ?_, ?_⟩
    · rw [hid_oth nD.1 nD.2, upd_same, List.map_append]
      rfl
    · intro y hy
      rcases List.mem_append.mp hy with z | z
      · exact hkb y z
      · rw [List.mem_singleton.mp z]
        exact ⟨l3, u3⟩
    · have hDH : H D = none := A1.free hS hD
      exact ((A2.trans A3 (Int.le_refl _)).mut hS hDH).mono (by omega)
  · obtain ⟨ks, hk, hkl, hkb, A2⟩ := h
    have S2 := A2.src n hS
    have hkn : 1 ≤ ks.length ∧ ks.length ≤ 3 := by omega
    -- found = []
    refine ⟨Nat.zero_le _, fun p hp => ?_⟩
    have np := S2.new1 hp
    have A3 : Adv a d 13 H (upd H2 p (.lst [])) := (A2.trans (Adv.of (same_new hp)) (Int.le_refl _)).mono (by omega)
    have hpH : H p = none := A2.free hS hp
    have hk3 : hid a d (upd H2 p (.lst [])) D = some (.lst (ks.map V.int)) := hid_same (same_new hp) _ _ hk
    have hp3 : hid a d (upd H2 p (.lst [])) p = some (.lst (([] : List Int).map V.int)) := by
      rw [hid_oth np.1 np.2, upd_same]
      rfl
    have nDp : D ≠ p := fun z => by rw [z] at hk; rw [hid_none hp] at hk; cases hk
    generalize upd H2 p (.lst []) = H3 at *
    have S3 := A3.src n hS
    refine ⟨_, rfl, _, rfl, _, _, rfl, rfl, a, d, n + 13, most + 1, rfl, S3, by omega, by omega, by omega, fun H4 r4 A4 l4 u4 => ⟨_, rfl, by omega, by omega, ?_⟩⟩
    refine for_range (lo := 0) (n := r4.toNat) (fun i σ H' => ∃ y4 ws, σ = [some (.ref a), some (.int most), some (.ref D), some (.ref p), y4] ∧ Adv a d (14 + 6 * i) H H' ∧ hid a d H' D = some (.lst (ks.map V.int)) ∧
        hid a d H' p = some (.lst ((ws : List Int).map V.int)) ∧ ws.length = i ∧ (∀ x ∈ ws, 0 ≤ x ∧ x < 1000000000000))
      ⟨none, [], rfl, (A3.trans A4 (Int.le_refl _)).mono (by omega), A4.same _ _ hk3, A4.same _ _ hp3, rfl, (fun _ z => nomatch z)⟩ (fun i σ H5 hi h => ?_) (fun σ H5 h => ?_)
    · obtain ⟨y4, ws, rfl, A5, hk5, hp5, hl5, hb5⟩ := h
      have S5 := A5.src n hS
      refine ⟨_, rfl, .inl ⟨rfl, _, sql (hid_get hp5).1⟩, ?_⟩
      refine ⟨_, rfl, a, d, n + (14 + 6 * i), 4, rfl, S5, by omega, by decide, by decide, fun H6 r6 A6 l6 u6 => ?_⟩
      have S6 := A6.src _ S5
      have hk6 := A6.same _ _ hk5
      have hp6 := A6.same _ _ hp5
      -- the end of a turn
      have fin : ∀ H7 x, Adv a d 4 H6 H7 → 0 ≤ x → x < 1000000000000 → H7 p = some (.lst (ws.map V.int)) ∧ (ws.map V.int).length < sizeLine ∧
          (∃ y4 ws', [some (V.ref a), some (.int most), some (.ref D), some (.ref p), some (.int (0 + (i : Int)))] = [some (.ref a), some (.int most), some (.ref D), some (.ref p), y4] ∧ Adv a d (14 + 6 * ((i + 1 : Nat) : Int)) H (upd H7 p (.lst (ws.map V.int ++ [.int x]))) ∧
            hid a d (upd H7 p (.lst (ws.map V.int ++ [.int x]))) D = some (.lst (ks.map V.int)) ∧ hid a d (upd H7 p (.lst (ws.map V.int ++ [.int x]))) p = some (.lst ((ws' : List Int).map V.int)) ∧ ws'.length = i + 1 ∧ (∀ x ∈ ws', 0 ≤ x ∧ x < 1000000000000)) := by
        intro H7 x A7 l7 u7
        have hp7 := A7.same _ _ hp6
        refine ⟨(hid_get hp7).1, size_lt (by rw [List.length_map]; omega), _, ws ++ [x], rfl, ?_, ?_, ?_, by rw [List.length_append, hl5]; rfl, ?_⟩
        · exact ((((A5.trans A6 (Int.le_refl _)).trans A7 (Int.le_refl _)).mut hS hpH)).mono (by omega)
        · rw [hid_oth np.1 np.2, upd_ne nDp]
          exact A7.same _ _ hk6
        · rw [hid_oth np.1 np.2, upd_same, List.map_append]
          rfl
        · intro y hy
          rcases List.mem_append.mp hy with z | z
          · exact hb5 y z
          · rw [List.mem_singleton.mp z]
            exact ⟨l7, u7⟩
      refine ⟨_, _, rfl, rfl, _, rfl, ite2 (fun e => ?_) (fun e => ?_)⟩
      · -- kinds[..]
        refine ⟨_, rfl, _, rfl, _, rfl, D, _, rfl, .inl (sql (hid_get hk6).1), a, d, n + (14 + 6 * i) + 1, ks.length, (by rw [List.length_map]; rfl), S6, by omega, by omega, by omega, fun H7 r7 A7 l7 u7 => ?_⟩
        obtain ⟨x, hx, _, hat⟩ := at_int l7 u7
        refine ⟨D, _, r7, .int x, rfl, rfl, sql (hid_get (A7.same _ _ hk6)).1, hat, ?_⟩
        obtain ⟨f1, f2, f3⟩ := fin H7 x (A7.mono (by decide)) (hkb x hx).1 (hkb x hx).2
        exact ⟨p, _, _, rfl, rfl, f1, f2, f3⟩
      · refine ⟨_, rfl, a, d, n + (14 + 6 * i) + 1, rfl, S6, by omega, fun H7 x A7 l7 u7 => ?_⟩
        obtain ⟨f1, f2, f3⟩ := fin H7 x A7 l7 u7
        exact ⟨p, _, _, rfl, rfl, f1, f2, f3⟩
    · obtain ⟨y4, ws, rfl, A5, hk5, hp5, hl5, hb5⟩ := h
      exact ⟨_, rfl, q H5 p ws (A5.mono (by omega)) hpH hp5 (by omega) hb5⟩

end
end Rn
namespace Rn
open PySem PySem.Spec PyProof.Rows L2
section
variable {P : Program} {w : World} {K : PySem.W.Frag} {mg : Str → Option Value} {base : Heap}
def sp_law_nesting (K : PySem.W.Frag) : Sp := fun vs H Q _ => ∃ (a d : Addr) (n layers most : Int), vs = [.ref a, .int layers, .int most] ∧ Src H a d n ∧ n ≤ 1000000000000 ∧ 0 ≤ layers ∧ layers ≤ 20 ∧ 1 ≤ most ∧ most ≤ 10000 ∧
  ∀ H' p us Ls, Adv a d (10 + 500 * layers) H H' → H p = none → NestV H (hid a d H') p us Ls → (Ls.length : Int) ≤ layers → (∀ L ∈ Ls, L.nice) → attOf Ls ≤ most → Q (.ref p) H'
theorem ok_law_nesting (T : Txt K mg) : FnOk P w K mg base CX0 4 T.f_law_nesting T.d_law_nesting ["source", "layers", "most"] (sp_law_nesting K) := by
  have G_law_draw := (ok_law_draw (P := P) (w := w) (base := base) T).mono (by decide : 1 ≤ 3)
  have G_law_wait_drawn := (ok_law_wait_drawn (P := P) (w := w) (base := base) T).mono (by decide : 2 ≤ 3)
  have G_law_policy := ok_law_policy (P := P) (w := w) (base := base) T
  refine T.F_law_nesting.ok sc_law_nesting (fun vs H Q E h => ?_) (fun cdv A outer s H vs Q E hr h => ?_)
  · obtain ⟨a, d, n, layers, most, rfl, _⟩ := h
    rfl
  obtain ⟨a, d, n, layers, most, rfl, hS, hn, hl0, hl1, hm0, hm1, q⟩ := h
  refine ⟨_, (pss_cons (ps_par (i := 3) (j := 4) (by rfl) sc_law_nesting.nd rfl rfl (by decide) rfl rfl (pa_cons (pe_lst pa_nil) (pa_cons (pv 2) pa_nil)) (by rfl))
      (pss_cons (ps_for PassesOwn.never rfl (pi_range1 (by rfl) T.m_range (pa_cons (pe_call G_law_draw hr (by rfl) T.g_law_draw T.F_law_draw.kp T.b_law_draw .nil pass0 (pa_cons (pv 0) (pa_cons (pe_op op_add (pv 1) pe_int) pa_nil))) pa_nil)) (pg_name (i := 5) sc_law_nesting.nd rfl (Or.inl rfl))
      (pss_cons (ps_set (i := 6) sc_law_nesting.nd rfl (Or.inl rfl) (pe_call G_law_policy hr (by rfl) T.g_law_policy T.F_law_policy.kp T.b_law_policy .nil pass0 (pa_cons (pv 0) (pa_cons (pe_ix ix_list (pe_lst (pa_cons pe_int (pa_cons pe_int (pa_cons pe_int (pa_cons pe_int pa_nil))))) (pe_call G_law_draw hr (by rfl) T.g_law_draw T.F_law_draw.kp T.b_law_draw .nil pass0 (pa_cons (pv 0) (pa_cons pe_int pa_nil))) (fun _ _ => rfl)) pa_nil))))
      (pss_cons (ps_set (i := 7) sc_law_nesting.nd rfl (Or.inl rfl) (pe_ix ix_list (pe_lst (pa_cons pe_int (pa_cons pe_int (pa_cons pe_int (pa_cons (pe_op op_add pe_int (pe_call G_law_draw hr (by rfl) T.g_law_draw T.F_law_draw.kp T.b_law_draw .nil pass0 (pa_cons (pv 0) (pa_cons pe_int pa_nil)))) (pa_cons (pe_op op_add pe_int (pe_call G_law_draw hr (by rfl) T.g_law_draw T.F_law_draw.kp T.b_law_draw .nil pass0 (pa_cons (pv 0) (pa_cons (pv 4) pa_nil)))) pa_nil)))))) (pe_call G_law_draw hr (by rfl) T.g_law_draw T.F_law_draw.kp T.b_law_draw .nil pass0 (pa_cons (pv 0) (pa_cons pe_int pa_nil))) (fun _ _ => rfl)))
      (pss_one (ps_if (PW.pt (pw_and (pt_cmpR op_eq (pe_call G_law_draw hr (by rfl) T.g_law_draw T.F_law_draw.kp T.b_law_draw .nil pass0 (pa_cons (pv 0) (pa_cons pe_int pa_nil))) pe_int (nomark _)) (pw_and1 (pt_cmpR op_le (pv 7) (pv 4) (nomark _)))))
      (pss_cons (ps_expr (pe_bm PySem.F.plainAttrs_list PySem.F.slot_list_append PySem.F.type_list_append mt_append (pv 3) (pa_cons (pe_tup (pa_cons (pe_call G_law_wait_drawn hr (by rfl) T.g_law_wait_drawn T.F_law_wait_drawn.kp T.b_law_wait_drawn .nil pass0 (pa_cons (pv 0) pa_nil)) (pa_cons (pv 7) pa_nil))) pa_nil)))
      (pss_one (ps_set (i := 4) sc_law_nesting.nd rfl (Or.inl rfl) (pe_op op_fdivW (pv 4) (pv 7)))))
      (pss_one (ps_if (pt_cmpR op_lt (pe_callB call_len_seq (by rfl) T.m_len PySem.boot_len (pa_cons (pv 6) pa_nil)) (pv 4) (nomark _))
      (pss_cons (ps_expr (pe_bm PySem.F.plainAttrs_list PySem.F.slot_list_append PySem.F.type_list_append mt_append (pv 3) (pa_cons (pv 6) pa_nil)))
      (pss_one (ps_set (i := 4) sc_law_nesting.nd rfl (Or.inl rfl) (pe_op op_fdivW (pv 4) (pe_op op_add (pe_callB call_len_seq (by rfl) T.m_len PySem.boot_len (pa_cons (pv 6) pa_nil)) pe_int)))))
      pss_nil)))))))
      (pss_one (ps_ret (pv 3))))), ?_⟩
  -- found, left = [], most
  refine ⟨Nat.zero_le _, fun p hp => ⟨_, rfl, _, _, rfl, ?_⟩⟩
  have np := hS.new1 hp
  have A1 : Adv a d 0 H (upd H p (.lst [])) := Adv.of (same_new hp)
  have e1 : hid a d (upd H p (.lst [])) p = some (.lst []) := by rw [hid_oth np.1 np.2, upd_same]
  have S1 := A1.src _ hS
  generalize upd H p (.lst []) = H1 at *
  -- for k in range(..)
  refine ⟨_, rfl, _, rfl, _, _, rfl, rfl, a, d, _, layers + 1, rfl, S1, by omega, by omega, by omega, fun H2 r2 A2 l2 u2 => ⟨_, rfl, by omega, by omega, ?_⟩⟩
  refine for_range (lo := 0) (n := r2.toNat) (fun i σ H' => ∃ us Ls left y5 y6 y7, σ = [some (.ref a), some (.int layers), some (.int most), some (.ref p), some (.int left), y5, y6, y7] ∧ NestV H (hid a d H') p us Ls ∧ Ls.length ≤ i ∧ (∀ L ∈ Ls, L.nice) ∧
      1 ≤ left ∧ attOf Ls * left ≤ most ∧ Adv a d (1 + 500 * i) H H')
    ⟨[], [], most, none, none, none, rfl, NestV.nil (A2.same _ _ e1), Nat.le_refl _, (fun _ z => nomatch z), hm0, by rw [show attOf [] = 1 from rfl]; omega, (A1.trans A2 (Int.le_refl _)).mono (by omega)⟩ (fun i σ H3 hi h => ?_) (fun σ H3 h => ?_)
  · obtain ⟨us, Ls, left, y5, y6, y7, rfl, hv, hlen, hnice, hleft, hatt, A3⟩ := h
    have S3 := A3.src n hS
    have lus : us.length ≤ i := by rw [hv.2.1]; exact hlen
    have hok : ∀ L ∈ Ls, L.ok = true := fun L hL => (hnice L hL).1
    have tpos := attOf_pos hok
    have lmost : left ≤ most := by
      have : 1 * left ≤ attOf Ls * left := Int.mul_le_mul_of_nonneg_right tpos (by omega)
      omega
    -- some = _law_policy(source, [1, 3, 6, 59][..])
    refine ⟨_, rfl, size_le (by show 4 ≤ 100000; decide), fun o ho => ?_⟩
    have no := S3.new1 ho
    have A4 : Adv a d 0 H3 (upd H3 o (.lst [.int 1, .int 3, .int 6, .int 59])) := Adv.of (same_new ho)
    have ho4 : hid a d (upd H3 o (.lst [.int 1, .int 3, .int 6, .int 59])) o = some (.lst (([1, 3, 6, 59] : List Int).map V.int)) := by
      rw [hid_oth no.1 no.2, upd_same]
      rfl
    have S4 := A4.src _ S3
    generalize upd H3 o (.lst [.int 1, .int 3, .int 6, .int 59]) = H4 at *
    refine ⟨_, rfl, a, d, _, 4, rfl, S4, by omega, by decide, by decide, fun H5 r5 A5 l5 u5 => ?_⟩
    obtain ⟨m1, hm1', _, hat1⟩ := at_int (ns := [1, 3, 6, 59]) l5 u5
    have hm1b : 0 ≤ m1 ∧ m1 ≤ 59 := by simp at hm1'; omega
    have S5 := A5.src _ S4
    refine ⟨o, _, r5, .int m1, rfl, rfl, sql (hid_get (A5.same _ _ ho4)).1, hat1, ?_⟩
    refine ⟨a, d, _, m1, rfl, S5, by omega, by omega, by omega, fun H6 ps ws A6 f6 e6 l6 b6 => ?_⟩
    have B5 : Adv a d 1 H3 H5 := (A4.trans A5 (Int.le_refl _)).mono (by omega)
    have B6 : Adv a d 375 H3 H6 := (B5.trans A6 (Int.le_refl _)).mono (by omega)
    have psp : ps ≠ p := fun z => by
      have := (hid_get (B5.same _ _ hv.1)).1
      rw [← z, f6] at this
      cases this
    have psH : H ps = none := (A3.trans B5 (Int.le_refl _)).free hS f6
    have S6 := B6.src _ S3
    have hv6 := hv.same B6.same
    clear A4 A5 A6 B5 S4 S5 ho4 hat1
    -- size = [1, 2, 3, 1 + .., 1 + ..][..]
    refine ⟨_, rfl, a, d, _, 12, rfl, S6, by omega, by decide, by decide, fun H7 r7 A7 l7 u7 => ⟨_, _, rfl, rfl, ?_⟩⟩
    have S7 := A7.src _ S6
    refine ⟨_, rfl, _, rfl, a, d, _, left, rfl, S7, by omega, by omega, by omega, fun H8 r8 A8 l8 u8 => ⟨_, _, rfl, rfl, size_le (by show 5 ≤ 100000; decide), fun o9 h9 => ?_⟩⟩
    have S8 := A8.src _ S7
    have n9 := S8.new1 h9
    have A9 : Adv a d 0 H8 (upd H8 o9 (.lst [.int 1, .int 2, .int 3, .int (1 + r7), .int (1 + r8)])) := Adv.of (same_new h9)
    have e9 : hid a d (upd H8 o9 (.lst [.int 1, .int 2, .int 3, .int (1 + r7), .int (1 + r8)])) o9 = some (.lst (([1, 2, 3, 1 + r7, 1 + r8] : List Int).map V.int)) := by
      rw [hid_oth n9.1 n9.2, upd_same]
      rfl
    have S9 := A9.src _ S8
    generalize upd H8 o9 (.lst [.int 1, .int 2, .int 3, .int (1 + r7), .int (1 + r8)]) = H9 at *
    refine ⟨_, rfl, a, d, _, 5, rfl, S9, by omega, by decide, by decide, fun H10 r10 A10 l10 u10 => ?_⟩
    obtain ⟨sz, hsz, _, hat2⟩ := at_int (ns := [1, 2, 3, 1 + r7, 1 + r8]) l10 u10
    have hszb : 1 ≤ sz ∧ sz ≤ 20000 := by
      simp only [List.mem_cons, List.not_mem_nil, or_false] at hsz
      omega
    refine ⟨o9, _, r10, .int sz, rfl, rfl, sql (hid_get (A10.same _ _ e9)).1, hat2, ?_⟩
    have B10 : Adv a d 378 H3 H10 := ((((B6.trans A7 (Int.le_refl _)).trans A8 (Int.le_refl _)).trans A9 (Int.le_refl _)).trans A10 (Int.le_refl _)).mono (by omega)
    have C10 : Same (hid a d H6) (hid a d H10) := ((A7.same.trans A8.same).trans A9.same).trans A10.same
    have hv10 := hv6.same C10
    have e10 := C10 _ _ e6
    have S10 := B10.src _ S3
    clear A7 A8 A9 A10 S7 S8 S9 e9 hat2 hv6 e6 B6 C10 S6
    -- if _law_draw(source, 2) == 0 and size <= left
    refine ⟨_, rfl, a, d, _, 2, rfl, S10, by omega, by decide, by decide, fun H11 r11 A11 l11 u11 => ?_⟩
    have S11 := A11.src _ S10
    have hv11 := hv10.same A11.same
    have e11 := A11.same _ _ e10
    have B11 : Adv a d 379 H3 H11 := (B10.trans A11 (Int.le_refl _)).mono (by omega)
    refine ⟨rfl, _, rfl, ite2 (fun e => ⟨_, rfl, _, rfl, _, _, rfl, rfl, _, rfl, ite2 (fun e2 => ?con) (fun e2 => ?els)⟩) (fun e => iteF ?els2)⟩
    case con =>
      have e2' := of_decide_eq_true e2
      refine ⟨_, rfl, .inl ⟨rfl, _, sql (hid_get hv11.1).1⟩, ?_⟩
      refine ⟨_, rfl, a, d, _, rfl, S11, by omega, fun H12 x A12 lx ux => ⟨_, rfl, size_le (by show 2 ≤ 100000; decide), fun t ht => ?_⟩⟩
      have S12 := A12.src _ S11
      have nt := S12.new1 ht
      have hv12 := hv11.same A12.same
      have htp : t ≠ p := fun z => by
        have := (hid_get hv12.1).1
        rw [← z, ht] at this
        cases this
      have B12 : Adv a d 383 H3 H12 := (B11.trans A12 (Int.le_refl _)).mono (by omega)
      have htH : H t = none := (A3.trans B12 (Int.le_refl _)).free hS ht
      have s13 := same_new (o := .tup [.int x, .int sz]) ht
      have hv13 := hv12.same (hid_same (a := a) (d := d) s13)
      have B13 : Adv a d 383 H3 (upd H12 t (.tup [.int x, .int sz])) := (B12.trans (Adv.of s13) (Int.le_refl _)).mono (by omega)
      have et : hid a d (upd H12 t (.tup [.int x, .int sz])) t = some (.tup [.int x, .int sz]) := by rw [hid_oth nt.1 nt.2, upd_same]
      generalize upd H12 t (.tup [.int x, .int sz]) = H13 at *
      refine ⟨p, _, _, rfl, rfl, (hid_get hv13.1).1, size_lt (by omega), ?_⟩
      have pl := part_left (c := sz) tpos hszb.1 e2' hatt
      refine ⟨_, rfl, _, rfl, _, _, rfl, rfl, wide_div (b := 20) (by omega) (by omega) (by decide) (by decide), us ++ [.ref t], Ls ++ [.con x sz], _, _, _, _, rfl, ?_, ?_, ?_, pl.1, ?_, ?_⟩
      · rw [hid_oth np.1 np.2]
        exact hv13.push ⟨t, rfl, et⟩ htp htH
      · rw [List.length_append]
        exact Nat.succ_le_succ hlen
      · intro L hL
        rcases List.mem_append.mp hL with z | z
        · exact hnice L z
        · rw [List.mem_singleton.mp z]
          exact Lay.nice_con lx ux hszb.1 (by omega)
      · rw [attOf_snoc]
        exact pl.2
      · exact ((A3.trans B13 (Int.le_refl _)).mut hS hp).mono (by omega)
    all_goals
      refine ⟨_, rfl, ps, _, rfl, .inl (sql (hid_get e11).1), _, rfl, _, _, rfl, rfl, _, rfl, ite2 (fun e3 => ?_) (fun _ => ?_)⟩
      · have e3' := of_decide_eq_true e3
        rw [List.length_map] at e3'
        refine ⟨_, rfl, .inl ⟨rfl, _, sql (hid_get hv11.1).1⟩, _, rfl, p, _, _, rfl, rfl, (hid_get hv11.1).1, size_lt (by omega), ?_⟩
        have pl := part_left (c := (ws.length : Int) + 1) tpos (by omega) (by omega) hatt
        have hps : (upd H11 p (.lst (us ++ [.ref ps]))) ps = some (.lst (ws.map V.int)) := by
          rw [upd_ne psp]
          exact (hid_get e11).1
        refine ⟨_, rfl, _, rfl, ps, _, rfl, .inl (sql hps), _, _, rfl, rfl, _, _, rfl, rfl, wide_div (b := 20) (by omega) (by rw [List.length_map]; omega) (by decide) (by decide), us ++ [.ref ps], Ls ++ [.pol ws], (left / ((ws.length : Int) + 1)), some (.int (0 + (i : Int))), some (.ref ps), some (.int sz), ?_, ?_, ?_, ?_, pl.1, ?_, ?_⟩
        · rw [List.length_map]
          rfl
        · rw [hid_oth np.1 np.2]
          exact hv11.push ⟨ps, rfl, e11⟩ psp psH
        · rw [List.length_append]
          exact Nat.succ_le_succ hlen
        · intro L hL
          rcases List.mem_append.mp hL with z | z
          · exact hnice L z
          · rw [List.mem_singleton.mp z]
            exact Lay.nice_pol (by omega) b6
        · rw [attOf_snoc]
          exact pl.2
        · exact ((A3.trans B11 (Int.le_refl _)).mut hS hp).mono (by omega)
      · exact ⟨us, Ls, left, _, _, _, rfl, hv11, Nat.le_succ_of_le hlen, hnice, hleft, hatt, (A3.trans B11 (Int.le_refl _)).mono (by omega)⟩
  · obtain ⟨us, Ls, left, y5, y6, y7, rfl, hv, hlen, hnice, hleft, hatt, A3⟩ := h
    have tpos := attOf_pos fun L hL => (hnice L hL).1
    exact ⟨_, rfl, q H3 p us Ls (A3.mono (by omega)) hp hv (by omega) hnice (le_left tpos hleft hatt)⟩

end
end Rn
namespace Rn
open PySem PySem.Spec PyProof.Rows L2
section
variable {P : Program} {w : World} {K : PySem.W.Frag} {mg : Str → Option Value} {base : Heap}
def sp_law_rewritten (K : PySem.W.Frag) : Sp := fun vs H Q _ => ∃ (a d q : Addr) (n : Int) (Ls : List Lay), vs = [.ref a, .ref q] ∧ Src H a d n ∧ n ≤ 1000000000000 ∧ NestAt (hid a d H) q Ls ∧ (∀ L ∈ Ls, L.nice) ∧ Ls.length ≤ 20 ∧
  ∀ H' p us Ms, Adv a d 300 H H' → NestV (fun _ => none) (hid a d H') p us Ms → (∀ L ∈ Ms, L.ok = true) → Ms.length ≤ 60 → flatL Ms = flatL Ls → Q (.ref p) H'
theorem flatL_snoc2 {Ms : List Lay} {L : Lay} (h : ∀ M ∈ Ms, M.ok = true) (hL : L.ok = true) : flatL (Ms ++ [L]) = nestL (flatL Ms) L.waits := by
  rw [flatL_fold (by
    intro M hM
    rcases List.mem_append.mp hM with z | z
    · exact h M z
    · rw [List.mem_singleton.mp z]; exact hL), flatL_fold h, List.foldl_append]
  rfl
theorem nestL_rep {α : Type} (x : α) (m k : Nat) : nestL (List.replicate m x) (List.replicate k x) = List.replicate ((m + 1) * (k + 1) - 1) x := by
  have h : ∀ z ∈ nestL (List.replicate m x) (List.replicate k x), z = x := fun z hz => by
    rcases nestL_mem hz with y | y
    · exact (List.mem_replicate.mp y).2
    · exact (List.mem_replicate.mp y).2
  rw [List.eq_replicate_of_mem h]
  congr 1
  have := nestL_len (List.replicate m x) (List.replicate k x)
  rw [List.length_replicate, List.length_replicate] at this
  omega
theorem con_two {w f g n : Int} (hf : 1 ≤ f) (hg : 1 ≤ g) (hn : f * g = n) : nestL (Lay.con w f).waits (Lay.con w g).waits = (Lay.con w n).waits := by
  show nestL (List.replicate (f - 1).toNat w) (List.replicate (g - 1).toNat w) = List.replicate (n - 1).toNat w
  rw [nestL_rep]
  congr 1
  obtain ⟨a, rfl⟩ : ∃ a : Nat, f = (a : Int) + 1 := ⟨(f - 1).toNat, by omega⟩
  obtain ⟨b, rfl⟩ : ∃ b : Nat, g = (b : Int) + 1 := ⟨(g - 1).toNat, by omega⟩
  have e1 : ((a : Int) + 1 - 1).toNat = a := by omega
  have e2 : ((b : Int) + 1 - 1).toNat = b := by omega
  have e3 : (((a + 1) * (b + 1) : Nat) : Int) = n := by rw [← hn]; push_cast; rfl
  rw [e1, e2]
  omega
theorem ok_law_rewritten (T : Txt K mg) : FnOk P w K mg base CX0 3 T.f_law_rewritten T.d_law_rewritten ["source", "layers"] (sp_law_rewritten K) := by
  have G_law_draw := (ok_law_draw (P := P) (w := w) (base := base) T).mono (by decide : 1 ≤ 2)
  have G_law_wait_drawn := ok_law_wait_drawn (P := P) (w := w) (base := base) T
  refine T.F_law_rewritten.ok sc_law_rewritten (fun vs H Q E h => ?_) (fun cdv A outer s H vs Q E hr h => ?_)
  · obtain ⟨a, d, q, n, Ls, rfl, _⟩ := h
    rfl
  obtain ⟨a, d, q, n, Ls, rfl, hS, hn, hN, nice, hl, k⟩ := h
  refine ⟨_, (pss_cons (ps_set (i := 2) sc_law_rewritten.nd rfl (Or.inl rfl) (pe_lst pa_nil))
      (pss_cons (ps_for PassesOwn.never rfl (pi_list (pv 1)) (pg_name (i := 3) sc_law_rewritten.nd rfl (Or.inr rfl))
      (pss_cons (ps_set (i := 4) sc_law_rewritten.nd rfl (Or.inl rfl) (pe_call G_law_draw hr (by rfl) T.g_law_draw T.F_law_draw.kp T.b_law_draw .nil pass0 (pa_cons (pv 0) (pa_cons pe_int pa_nil))))
      (Evl.pss_cut (ps_if (pt_cmpR op_eq (pv 4) pe_int (nomark _))
      (pss_one (ps_expr (pe_bm PySem.F.plainAttrs_list PySem.F.slot_list_append PySem.F.type_list_append mt_append (pv 2) (pa_cons (pe_ix ix_list (pe_lst (pa_cons (pe_lst pa_nil) (pa_cons (pe_tup (pa_cons (pe_call G_law_wait_drawn hr (by rfl) T.g_law_wait_drawn T.F_law_wait_drawn.kp T.b_law_wait_drawn .nil pass0 (pa_cons (pv 0) pa_nil)) (pa_cons pe_int pa_nil))) pa_nil))) (pe_call G_law_draw hr (by rfl) T.g_law_draw T.F_law_draw.kp T.b_law_draw .nil pass0 (pa_cons (pv 0) (pa_cons pe_int pa_nil))) (fun _ _ => rfl)) pa_nil))))
      pss_nil)
      (pss_one (ps_if (PW.pt (pw_and (pt_val (pe_callB call_isi (by rfl) T.m_isinstance (by decide +kernel) (pa_cons (pv 3) (pa_cons (pe_bltn (v := .ty "tuple") (by rfl) T.m_tuple (by decide +kernel) rfl) pa_nil)))) (pw_and (pt_cmpR op_eq (pv 4) pe_int (nomark _)) (pw_and1 (pt_cmpR op_le (pe_ix ix_tup (pv 3) pe_int (fun _ _ => rfl)) pe_int (nomark _))))))
      (pss_one (ps_expr (pe_bm PySem.F.plainAttrs_list PySem.F.slot_list_append PySem.F.type_list_append mt_append (pv 2) (pa_cons (pe_op op_rep (pe_lst (pa_cons (pe_ix ix_tup (pv 3) pe_int (fun _ _ => rfl)) pa_nil)) (pe_op op_sub (pe_ix ix_tup (pv 3) pe_int (fun _ _ => rfl)) pe_int)) pa_nil))))
      (pss_one (ps_if (PW.pt (pw_and (pt_val (pe_callB call_isi (by rfl) T.m_isinstance (by decide +kernel) (pa_cons (pv 3) (pa_cons (pe_bltn (v := .ty "tuple") (by rfl) T.m_tuple (by decide +kernel) rfl) pa_nil)))) (pw_and1 (pt_cmpR op_gt (pv 4) pe_int (nomark _)))))
      (pss_cons (ps_setLc (i := 5) (own := [("factor", 6)]) (g := gName 6)  rfl sc_law_rewritten.nd rfl rfl (sw_true rfl rfl rfl (by decide +kernel)) (pi_range2 (by rfl) T.m_range (pa_cons pe_int (pa_cons (pe_op op_add (pe_callB (call_min2 rfl) (by rfl) T.m_min (by decide +kernel) (pa_cons pe_int (pa_cons (pe_ix ix_tup (pv 3) pe_int (fun _ _ => rfl)) pa_nil))) pe_int) pa_nil))) (blkOk_by (N := ["source", "layers", "found", "part", "choice", "factors", "factor"]) (sc := defScope s_law_rewritten) (by decide +kernel)) (fun _ _ _ _ _ => (pg_name (i := 6) sc_law_rewritten.nd rfl (Or.inl rfl))) (fun _ _ _ _ _ => (pts_one (pt_cmpR op_eq (pe_op op_mod (pe_ix (ix_tupK (K := K) rfl) (pv 3) pe_int (fun _ _ => rfl)) (pv 6)) pe_int (nomark _)))) (fun _ _ _ _ _ => (pv 6)))
      (pss_cons (ps_set (i := 6) sc_law_rewritten.nd rfl (Or.inl rfl) (pe_ix ix_list (pv 5) (pe_call G_law_draw hr (by rfl) T.g_law_draw T.F_law_draw.kp T.b_law_draw .nil pass0 (pa_cons (pv 0) (pa_cons (pe_callB call_len_seq (by rfl) T.m_len PySem.boot_len (pa_cons (pv 5) pa_nil)) pa_nil))) (fun _ _ => rfl)))
      (pss_one (ps_set (i := 2) sc_law_rewritten.nd rfl (Or.inl rfl) (pe_op op_cat (pv 2) (pe_step (pe_lst (pa_cons (pe_tup (pa_cons (pe_ix ix_tup (pv 3) pe_int (fun _ _ => rfl)) (pa_cons (pv 6) pa_nil))) (pa_cons (pe_tup (pa_cons (pe_ix ix_tup (pv 3) pe_int (fun _ _ => rfl)) (pa_cons (pe_op op_fdivW (pe_ix ix_tup (pv 3) pe_int (fun _ _ => rfl)) (pv 6)) pa_nil))) pa_nil))) (pe_ix ix_list (pe_lst (pa_cons pe_int (pa_cons (pe_un un_neg pe_int) pa_nil))) (pe_call G_law_draw hr (by rfl) T.g_law_draw T.F_law_draw.kp T.b_law_draw .nil pass0 (pa_cons (pv 0) (pa_cons pe_int pa_nil))) (fun _ _ => rfl))))))))
      (pss_one (ps_expr (pe_bm PySem.F.plainAttrs_list PySem.F.slot_list_append PySem.F.type_list_append mt_append (pv 2) (pa_cons (pv 3) pa_nil)))))))))))
      (pss_one (ps_ret (pv 2))))), ?_⟩
  obtain ⟨vs, hv, hvl, hat⟩ := id hN
  -- found = []
  refine ⟨Nat.zero_le _, fun p hp => ?_⟩
  have np := hS.new1 hp
  have A1 : Adv a d 0 H (upd H p (.lst [])) := Adv.of (same_new hp)
  refine ⟨_, rfl, q, rfl, ⟨vs, sql (same_new hp _ _ (hid_get hv).1)⟩, for_list (xs := vs) (fun i σ H' => ∃ p us Ms y3 y4 y5 y6, σ = [some (.ref a), some (.ref q), some (.ref p), y3, y4, y5, y6] ∧ H p = none ∧ NestV (fun _ => none) (hid a d H') p us Ms ∧ (∀ L ∈ Ms, L.ok = true) ∧ Ms.length ≤ 3 * i ∧
      flatL Ms = flatL (Ls.take i) ∧ Adv a d (10 * i) H H')
    ⟨p, [], [], _, _, _, _, rfl, hp, NestV.nil (by rw [hid_oth np.1 np.2, upd_same]), (fun _ z => nomatch z), Nat.zero_le _, rfl, A1.mono (by omega)⟩ (fun i σ H' _ h => by obtain ⟨_, _, _, _, _, _, _, _, _, _, _, _, _, A⟩ := h; exact sql (hid_get (A.same _ _ hv)).1) (fun i v σ H2 hx h => ?_) (fun σ H2 h => ?_)⟩
  · clear A1 np hp p
    obtain ⟨p, us, Ms, y3, y4, y5, y6, rfl, hp, hm, mok, ml, mf, A2⟩ := h
    have np := hS.new1 hp
    have S2 := A2.src n hS
    have hi : i < Ls.length := by
      rw [← hvl]
      exact (List.getElem?_eq_some_iff.mp hx).1
    have hi' := List.getElem?_eq_getElem hi
    have hL := hat i v _ hx hi'
    have nL := nice _ (List.getElem_mem hi)
    have et : Ls.take (i + 1) = Ls.take i ++ [Ls[i]] := by
      rw [List.take_add_one, hi']
      rfl
    have ft : flatL (Ls.take (i + 1)) = nestL (flatL (Ls.take i)) Ls[i].waits := by
      rw [et, flatL_snoc2 (fun M hM => (nice M (List.mem_of_mem_take hM)).1) nL.1]
    generalize Ls[i] = L at *
    have lus : us.length ≤ 60 := by rw [hm.2.1]; omega
    obtain ⟨x, rfl⟩ := hL.ref
    -- choice = _law_draw(source, 4)
    refine ⟨_, rfl, a, d, _, 4, rfl, S2, by omega, by decide, by decide, fun H3 ch A3 l3 u3 => ?_⟩
    have B3 : Adv a d (10 * i + 1) H H3 := (A2.trans A3 (Int.le_refl _)).mono (by omega)
    have S3 := B3.src n hS
    have hm3 := hm.same A3.same
    have hL3 := hL.same B3.same
    -- if choice == 0
    refine ⟨fun σ' H4 => ∃ us Ms, σ' = [some (.ref a), some (.ref q), some (.ref p), some (.ref x), some (.int ch), y5, y6] ∧ NestV (fun _ => none) (hid a d H4) p us Ms ∧ (∀ L ∈ Ms, L.ok = true) ∧ Ms.length ≤ 3 * i + 1 ∧ flatL Ms = flatL (Ls.take i) ∧ Adv a d (10 * i + 8) H H4, ?_, fun σ' H4 h4 => ?_⟩
    · refine ⟨_, rfl, rfl, _, rfl, ite2 (fun _ => ?_) (fun _ => ⟨us, Ms, rfl, hm3, mok, by omega, mf, B3.mono (by omega)⟩)⟩
      refine ⟨_, rfl, .inl ⟨rfl, _, sql (hid_get hm3.1).1⟩, ?_⟩
      refine ⟨Nat.zero_le _, fun o4 f4 => ?_⟩
      have s4 := same_new (o := .lst []) f4
      have B4 : Adv a d (10 * i + 1) H (upd H3 o4 (.lst [])) := (B3.trans (Adv.of s4) (Int.le_refl _)).mono (by omega)
      have n4 := S3.new1 f4
      have e4 := hid_at (upd_same (H := H3) (a := o4) (o := .lst [])) n4.1 n4.2
      have o4p : o4 ≠ p := fun z => by
        have := (hid_get hm3.1).1
        rw [← z, f4] at this
        cases this
      have hm4 := hm3.same (hid_same (a := a) (d := d) s4)
      generalize upd H3 o4 (.lst []) = H4 at *
      have S4 := B4.src n hS
      refine ⟨_, rfl, a, d, _, rfl, S4, by omega, fun H5 c A5 l5 u5 => ⟨size_le (by show 2 ≤ 100000; decide), fun t5 f5 => ⟨size_le (by show 2 ≤ 100000; decide), fun o6 f6 => ?_⟩⟩⟩
      have B5 : Adv a d (10 * i + 5) H H5 := (B4.trans A5 (Int.le_refl _)).mono (by omega)
      have S5 := B5.src n hS
      have n5 := S5.new1 f5
      have hm5 := hm4.same A5.same
      have t5p : t5 ≠ p := fun z => by
        have := (hid_get hm5.1).1
        rw [← z, f5] at this
        cases this
      have s6 := (same_new (o := .tup [.int c, .int 1]) f5).trans (same_new (o := .lst [.ref o4, .ref t5]) f6)
      have B6 : Adv a d (10 * i + 5) H (upd (upd H5 t5 (.tup [.int c, .int 1])) o6 (.lst [.ref o4, .ref t5])) := (B5.trans (Adv.of s6) (Int.le_refl _)).mono (by omega)
      have n6 := (S5.same (same_new (o := .tup [.int c, .int 1]) f5)).new1 f6
      have e6 := hid_at (upd_same (H := upd H5 t5 (.tup [.int c, .int 1])) (a := o6) (o := .lst [.ref o4, .ref t5])) n6.1 n6.2
      have et5 := hid_at (same_new (o := .lst [.ref o4, .ref t5]) f6 _ _ (upd_same (H := H5) (a := t5) (o := .tup [.int c, .int 1]))) n5.1 n5.2
      have hm6 := hm5.same (hid_same (a := a) (d := d) s6)
      have e46 := hid_same (a := a) (d := d) s6 _ _ (A5.same _ _ e4)
      generalize upd (upd H5 t5 (.tup [.int c, .int 1])) o6 (.lst [.ref o4, .ref t5]) = H6 at *
      have S6 := B6.src n hS
      refine ⟨_, rfl, a, d, _, 2, rfl, S6, by omega, by decide, by decide, fun H7 r7 A7 l7 u7 => ?_⟩
      have B7 : Adv a d (10 * i + 6) H H7 := (B6.trans A7 (Int.le_refl _)).mono (by omega)
      have hm7 := hm6.same A7.same
      -- either is trivial
      obtain ⟨y, Ly, hy, hat7, yp, yl, yw, yo⟩ : ∃ y Ly, atI [V.ref o4, V.ref t5] r7 = some (.ref y) ∧ LayAt (hid a d H7) (.ref y) Ly ∧ y ≠ p ∧ Ly.waits = [] ∧ True ∧ Ly.ok = true := by
        have z : r7 = 0 ∨ r7 = 1 := by omega
        rcases z with rfl | rfl
        · exact ⟨o4, .pol [], rfl, ⟨o4, rfl, A7.same _ _ e46⟩, o4p, rfl, trivial, rfl⟩
        · exact ⟨t5, .con c 1, rfl, ⟨t5, rfl, A7.same _ _ et5⟩, t5p, rfl, trivial, by rw [Lay.ok_con, decide_eq_true l5]; rfl⟩
      refine ⟨o6, _, r7, .ref y, rfl, rfl, sql (hid_get (A7.same _ _ e6)).1, hy, ?_⟩
      refine ⟨p, us, _, rfl, rfl, (hid_get hm7.1).1, size_lt (by omega), us ++ [.ref y], Ms ++ [Ly], rfl, ?_, ?_, ?_, ?_, (B7.mut hS hp).mono (by omega)⟩
      · rw [hid_oth np.1 np.2]
        exact hm7.push hat7 yp rfl
      · intro M hM
        rcases List.mem_append.mp hM with z | z
        · exact mok M z
        · rw [List.mem_singleton.mp z]
          exact yo
      · rw [List.length_append]
        exact Nat.succ_le_succ ml
      · rw [flatL_snoc2 mok yo, yl, nestL_nil]
        exact mf
    · clear hm3 hm B3 S3 mok ml mf lus us Ms A3 A2 S2
      obtain ⟨us, Ms, rfl, hm, mok, ml, mf, B4⟩ := h4
      have S4 := B4.src n hS
      have hL4 := hL.same B4.same
      have lus : us.length ≤ 70 := by rw [hm.2.1]; omega
      have xp : x ≠ p := fun z => by
        cases L with
        | pol ns => obtain ⟨y, e, z2⟩ := hL; cases e; rw [z, hid_none hp] at z2; cases z2
        | con w n => obtain ⟨y, e, z2⟩ := hL; cases e; rw [z, hid_none hp] at z2; cases z2
      cases L with
      | pol ns =>
        obtain ⟨y, e, hx4⟩ := id hL4
        cases e
        have hx4' := (hid_get hx4).1
        refine ⟨_, rfl, _, _, _, _, false, rfl, .ty "tuple", .base (.lst hx4'), kit_ty (by decide +kernel), false, rfl, iteF (iteF ?_)⟩
        refine ⟨_, rfl, _, _, _, _, false, rfl, .ty "tuple", .base (.lst hx4'), kit_ty (by decide +kernel), false, rfl, iteF (iteF ?_)⟩
        refine ⟨_, rfl, .inl ⟨rfl, _, sql (hid_get hm.1).1⟩, _, rfl, p, us, _, rfl, rfl, (hid_get hm.1).1, size_lt (by omega), p, us ++ [.ref x], Ms ++ [.pol ns], _, _, _, _, rfl, hp, ?_, ?_, ?_, ?_, (B4.mut hS hp).mono (by omega)⟩
        · rw [hid_oth np.1 np.2]
          exact hm.push hL4 xp rfl
        · intro M hM
          rcases List.mem_append.mp hM with z | z
          · exact mok M z
          · rw [List.mem_singleton.mp z]
            exact nL.1
        · rw [List.length_append]
          show Ms.length + 1 ≤ 3 * (i + 1)
          omega
        · rw [flatL_snoc2 mok nL.1, mf, ft]
      | con wt m =>
        obtain ⟨y, e, hx4⟩ := id hL4
        cases e
        have hx4' := (hid_get hx4).1
        have m1 : 1 ≤ m := LayAt.con_pos nL.1
        have m2 : m < 1000000000000000000000 := nL.2.2
        have w0 : 0 ≤ wt := by
          have := nL.1
          rw [Lay.ok_con, Bool.and_eq_true] at this
          exact of_decide_eq_true this.1
        refine ⟨_, rfl, _, _, _, _, true, rfl, .ty "tuple", .base (.tup hx4'), kit_ty (by decide +kernel), true, rfl, iteT ?_⟩
        refine ⟨_, rfl, rfl, _, rfl, ite2 (fun _ => ⟨_, rfl, x, _, 1, _, rfl, rfl, sqt hx4', rfl, _, _, rfl, rfl, _, rfl, ite2 (fun e60 => ?list) (fun _ => ?els)⟩) (fun _ => iteF ?els2)⟩
        case list =>
          have m60 := of_decide_eq_true e60
          refine ⟨_, rfl, .inl ⟨rfl, _, sql (hid_get hm.1).1⟩, ?_⟩
          refine ⟨_, rfl, x, _, 0, _, rfl, rfl, sqt hx4', rfl, size_le (by show 1 ≤ 100000; decide), fun o5 f5 => ?_⟩
          have s5 := same_new (o := .lst [.int wt]) f5
          refine ⟨_, rfl, x, _, 1, _, rfl, rfl, sqt (s5 _ _ hx4'), rfl, _, _, rfl, rfl, o5, m - 1, _, rfl, rfl, upd_same, by omega, by omega, size_le (by show 1 * (m - 1).toNat ≤ 100000; omega), fun r6 f6 => ?_⟩
          rw [rep_flat]
          have s6 := s5.trans (same_new (o := .lst (List.replicate (m - 1).toNat (V.int wt))) f6)
          have B6 : Adv a d (10 * i + 8) H (upd (upd H4 o5 (.lst [.int wt])) r6 (.lst (List.replicate (m - 1).toNat (V.int wt)))) := (B4.trans (Adv.of s6) (Int.le_refl _)).mono (by omega)
          have hm6 := hm.same (hid_same (a := a) (d := d) s6)
          have n6 := (S4.same s5).new1 f6
          have r6p : r6 ≠ p := fun z => by
            have := s5 _ _ (hid_get hm.1).1
            rw [← z, f6] at this
            cases this
          have e6 := hid_at (upd_same (H := upd H4 o5 (.lst [.int wt])) (a := r6) (o := .lst (List.replicate (m - 1).toNat (V.int wt)))) n6.1 n6.2
          generalize upd (upd H4 o5 (.lst [.int wt])) r6 (.lst (List.replicate (m - 1).toNat (V.int wt))) = H6 at *
          have okp : (Lay.pol (List.replicate (m - 1).toNat wt)).ok = true := by
            rw [Lay.ok_pol, List.all_eq_true]
            intro z hz
            rw [(List.mem_replicate.mp hz).2]
            exact decide_eq_true w0
          refine ⟨p, us, _, rfl, rfl, (hid_get hm6.1).1, size_lt (by omega), p, us ++ [.ref r6], Ms ++ [.pol (List.replicate (m - 1).toNat wt)], _, _, _, _, rfl, hp, ?_, ?_, ?_, ?_, (B6.mut hS hp).mono (by omega)⟩
          · rw [hid_oth np.1 np.2]
            exact hm6.push ⟨r6, rfl, by rw [e6, List.map_replicate]⟩ r6p rfl
          · intro M hM
            rcases List.mem_append.mp hM with z | z
            · exact mok M z
            · rw [List.mem_singleton.mp z]
              exact okp
          · rw [List.length_append]
            show Ms.length + 1 ≤ 3 * (i + 1)
            omega
          · rw [flatL_snoc2 mok okp, mf, ft]
            rfl
        all_goals
          refine ⟨_, rfl, _, _, _, _, true, rfl, .ty "tuple", .base (.tup hx4'), kit_ty (by decide +kernel), true, rfl, iteT ?_⟩
          refine ⟨_, rfl, _, _, rfl, rfl, _, rfl, ite2 (fun _ => ?_) (fun _ => ?_)⟩
          · -- factors
            refine ⟨_, rfl, x, _, 1, _, rfl, rfl, sqt hx4', rfl, _, _, rfl, _, _, rfl, rfl, _, _, rfl, ⟨by decide, by decide, by split <;> omega, by split <;> omega⟩, fun D hD => ?_⟩
            have nD := S4.new1 hD
            have sD := same_new (o := .lst []) hD
            refine lc_range (lo := 1) (n := _) (fun i H' => ∃ ks : List Int, H' D = some (.lst (ks.map V.int)) ∧ ks.length ≤ i ∧ (∀ f ∈ ks, 1 ≤ f ∧ f ≤ m ∧ m % f = 0) ∧ (1 ≤ i → ks ≠ []) ∧ Same H4 H')
              ⟨[], upd_same, Nat.le_refl _, (fun _ z => nomatch z), (fun z => absurd z (by decide)), sD⟩ (fun t H5 ht h => ?_) (fun H5 h => ?_)
            · obtain ⟨ks, hk, hkl, hkf, hkn, sm⟩ := h
              have hb : 1 + (t : Int) ≤ m ∧ t < 60 := by
                have : ((if m < 60 then m else 60) : Int) ≤ m ∧ ((if m < 60 then m else 60) : Int) ≤ 60 := by split <;> omega
                omega
              refine ⟨rfl, _, rfl, x, _, 1, _, rfl, rfl, sqt (sm _ _ hx4'), rfl, _, rfl, _, _, rfl, rfl, by omega, rfl, _, rfl, ite2 (fun e => ?_) (fun e => ?_)⟩
              · have e' := V.int.inj (of_decide_eq_true e)
                refine ⟨_, rfl, _, hk, size_lt (by rw [List.length_map]; omega), ks ++ [1 + (t : Int)], by rw [upd_same, List.map_append]; rfl, by rw [List.length_append]; exact Nat.succ_le_succ hkl, fun f hf => ?_, fun _ => by simp, same_keep sm hD⟩
                rcases List.mem_append.mp hf with z | z
                · exact hkf f z
                · rw [List.mem_singleton.mp z]
                  exact ⟨by omega, hb.1, e'⟩
              · refine ⟨ks, hk, Nat.le_succ_of_le hkl, hkf, fun _ => ?_, sm⟩
                by_cases t0 : t = 0
                · subst t0
                  exact absurd (decide_eq_true (congrArg V.int (show m % (1 + ((0 : Nat) : Int)) = 0 by rw [show (1 : Int) + ((0 : Nat) : Int) = 1 from rfl, Int.emod_one]))) e
                · exact hkn (by omega)
            · obtain ⟨ks, hk, hkl, hkf, hkn, sm⟩ := h
              have kpos : 0 < ks.length := List.length_pos_iff.mpr (hkn (by
                have : (1 : Int) ≤ (if m < 60 then m else 60) := by split <;> omega
                omega))
              have klen : ks.length ≤ 60 := by
                have : ((if m < 60 then m else 60) : Int) ≤ 60 := by split <;> omega
                omega
              have B5 : Adv a d (10 * i + 8) H H5 := (B4.trans (Adv.of sm) (Int.le_refl _)).mono (by omega)
              have S5 := B5.src n hS
              have hm5 := hm.same (hid_same (a := a) (d := d) sm)
              have hx5 := hid_same (a := a) (d := d) sm _ _ hx4
              have eD := hid_at hk nD.1 nD.2
              -- factor
              refine ⟨_, rfl, _, rfl, _, rfl, D, _, rfl, .inl (sql hk), a, d, _, ks.length, (by rw [List.length_map]; rfl), S5, by omega, by omega, by omega, fun H6 r6 A6 l6 u6 => ?_⟩
              obtain ⟨f, hf, _, hat6⟩ := at_int l6 u6
              obtain ⟨f1, f2, f3⟩ := hkf f hf
              refine ⟨D, _, r6, .int f, rfl, rfl, sql (hid_get (A6.same _ _ eD)).1, hat6, ?_⟩
              have B6 : Adv a d (10 * i + 9) H H6 := (B5.trans A6 (Int.le_refl _)).mono (by omega)
              have S6 := B6.src n hS
              have hm6 := hm5.same A6.same
              have hx6 := A6.same _ _ hx5
              have hx6' := (hid_get hx6).1
              -- found = found + [..][::..]
              refine ⟨_, rfl, _, rfl, x, _, 0, _, rfl, rfl, sqt hx6', rfl, _, rfl, size_le (by show 2 ≤ 100000; decide), fun t7 f7 => ?_⟩
              have s7 := same_new (o := .tup [.int wt, .int f]) f7
              refine ⟨_, rfl, x, _, 0, _, rfl, rfl, sqt (s7 _ _ hx6'), rfl, _, rfl, x, _, 1, _, rfl, rfl, sqt (s7 _ _ hx6'), rfl, _, rfl, _, _, rfl, rfl, wide_div (b := 100) (by omega) (by omega) (by decide) (by decide), size_le (by show 2 ≤ 100000; decide), fun t8 f8 => ⟨size_le (by show 2 ≤ 100000; decide), fun o9 f9 => ⟨_, rfl, size_le (by show 2 ≤ 100000; decide), fun o10 f10 => ?_⟩⟩⟩
              have s10 := ((s7.trans (same_new (o := .tup [.int wt, .int (m / f)]) f8)).trans (same_new (o := .lst [.ref t7, .ref t8]) f9)).trans (same_new (o := .lst [.int 1, .int (-1)]) f10)
              have q7 := same_new (o := .lst [.int 1, .int (-1)]) f10 _ _ (same_new (o := .lst [.ref t7, .ref t8]) f9 _ _ (same_new (o := .tup [.int wt, .int (m / f)]) f8 _ _ (upd_same (H := H6) (a := t7) (o := .tup [.int wt, .int f]))))
              have q8 := same_new (o := .lst [.int 1, .int (-1)]) f10 _ _ (same_new (o := .lst [.ref t7, .ref t8]) f9 _ _ (upd_same (H := upd H6 t7 (.tup [.int wt, .int f])) (a := t8) (o := .tup [.int wt, .int (m / f)])))
              have q9 := same_new (o := .lst [.int 1, .int (-1)]) f10 _ _ (upd_same (H := upd (upd H6 t7 (.tup [.int wt, .int f])) t8 (.tup [.int wt, .int (m / f)])) (a := o9) (o := .lst [.ref t7, .ref t8]))
              have q10 := upd_same (H := upd (upd (upd H6 t7 (.tup [.int wt, .int f])) t8 (.tup [.int wt, .int (m / f)])) o9 (.lst [.ref t7, .ref t8])) (a := o10) (o := .lst [.int 1, .int (-1)])
              have g7 := S6.new1 f7
              have g8 := (S6.same s7).new1 f8
              have g9 := (S6.same (s7.trans (same_new (o := .tup [.int wt, .int (m / f)]) f8))).new1 f9
              have g10 := (S6.same ((s7.trans (same_new (o := .tup [.int wt, .int (m / f)]) f8)).trans (same_new (o := .lst [.ref t7, .ref t8]) f9))).new1 f10
              generalize upd (upd (upd (upd H6 t7 (.tup [.int wt, .int f])) t8 (.tup [.int wt, .int (m / f)])) o9 (.lst [.ref t7, .ref t8])) o10 (.lst [.int 1, .int (-1)]) = H10 at *
              have B10 : Adv a d (10 * i + 9) H H10 := (B6.trans (Adv.of s10) (Int.le_refl _)).mono (by omega)
              have S10 := B10.src n hS
              refine ⟨_, rfl, a, d, _, 2, rfl, S10, by omega, by decide, by decide, fun H11 r11 A11 l11 u11 => ?_⟩
              have B11 : Adv a d (10 * i + 10) H H11 := (B10.trans A11 (Int.le_refl _)).mono (by omega)
              have hm11 := (hm6.same (hid_same (a := a) (d := d) s10)).same A11.same
              have e7 := A11.same _ _ (hid_at q7 g7.1 g7.2)
              have e8 := A11.same _ _ (hid_at q8 g8.1 g8.2)
              have e9 := A11.same _ _ (hid_at q9 g9.1 g9.2)
              have e10 := A11.same _ _ (hid_at q10 g10.1 g10.2)
              have S11 := B11.src n hS
              have fg : f * (m / f) = m := by
                have := Int.mul_ediv_add_emod m f
                omega
              have gpos : 1 ≤ m / f := by rw [Int.le_ediv_iff_mul_le (by omega)]; omega
              have ok7 : (Lay.con wt f).ok = true := by rw [Lay.ok_con, decide_eq_true w0, decide_eq_true f1]; rfl
              have ok8 : (Lay.con wt (m / f)).ok = true := by rw [Lay.ok_con, decide_eq_true w0, decide_eq_true gpos]; rfl
              obtain ⟨st, hst, hsi⟩ : ∃ st, atI [V.int 1, V.int (-1)] r11 = some (.int st) ∧ (st = 1 ∨ st = -1) := by
                have z : r11 = 0 ∨ r11 = 1 := by omega
                rcases z with rfl | rfl
                · exact ⟨1, rfl, .inl rfl⟩
                · exact ⟨-1, rfl, .inr rfl⟩
              refine ⟨o10, _, r11, .int st, rfl, rfl, sql (hid_get e10).1, hst, st, rfl, st, rfl, o9, .ref t7, .ref t8, rfl, hsi, sql (hid_get e9).1, fun p12 f12 => ?_⟩
              have s12 := same_new (o := .lst (two st (.ref t7) (.ref t8))) f12
              have l2 : (two st (V.ref t7) (V.ref t8)).length = 2 := by unfold two; split <;> rfl
              refine ⟨p, p12, us, _, rfl, rfl, s12 _ _ (hid_get hm11.1).1, upd_same, size_le (by rw [l2]; omega), fun p13 f13 => ?_⟩
              have n13 := (S11.same s12).new1 f13
              have hp13 : H p13 = none := B11.free hS (s12.free f13)
              have B12 : Adv a d (10 * i + 10) H (upd H11 p12 (.lst (two st (.ref t7) (.ref t8)))) := (B11.trans (Adv.of s12) (Int.le_refl _)).mono (by omega)
              have e7' := hid_same (a := a) (d := d) s12 _ _ e7
              have e8' := hid_same (a := a) (d := d) s12 _ _ e8
              have h13 := hm11.fresh (p' := p13) (hid_same (a := a) (d := d) s12) (hid_none f13)
              generalize upd H11 p12 (.lst (two st (.ref t7) (.ref t8))) = H12 at *
              have t7p : t7 ≠ p13 := fun z => by rw [z, hid_none f13] at e7'; cases e7'
              have t8p : t8 ≠ p13 := fun z => by rw [z, hid_none f13] at e8'; cases e8'
              have k7 : LayAt (upd (hid a d H12) p13 (.lst us)) (.ref t7) (.con wt f) := ⟨t7, rfl, by rw [upd_ne t7p]; exact e7'⟩
              have k8 : LayAt (upd (hid a d H12) p13 (.lst us)) (.ref t8) (.con wt (m / f)) := ⟨t8, rfl, by rw [upd_ne t8p]; exact e8'⟩
              have Bend : Adv a d (10 * ((i + 1 : Nat) : Int)) H (upd H12 p13 (.lst (us ++ two st (.ref t7) (.ref t8)))) := (B12.mut hS hp13).mono (by omega)
              have okl : ∀ A B : Lay, A.ok = true → B.ok = true → ∀ M ∈ Ms ++ [A] ++ [B], M.ok = true := fun A B hA hB M hM => by
                rcases List.mem_append.mp hM with z | z
                · rcases List.mem_append.mp z with z | z
                  · exact mok M z
                  · rw [List.mem_singleton.mp z]; exact hA
                · rw [List.mem_singleton.mp z]; exact hB
              have okl1 : ∀ A : Lay, A.ok = true → ∀ M ∈ Ms ++ [A], M.ok = true := fun A hA M hM => by
                rcases List.mem_append.mp hM with z | z
                · exact mok M z
                · rw [List.mem_singleton.mp z]; exact hA
              have ll : ∀ A B : Lay, (Ms ++ [A] ++ [B]).length ≤ 3 * (i + 1) := fun A B => by
                rw [List.length_append, List.length_append]
                show Ms.length + 1 + 1 ≤ 3 * (i + 1)
                omega
              rcases hsi with rfl | rfl
              · refine ⟨p13, us ++ two 1 (.ref t7) (.ref t8), Ms ++ [.con wt f] ++ [.con wt (m / f)], _, _, _, _, rfl, hp13, ?_, okl _ _ ok7 ok8, ll _ _, ?_, Bend⟩
                · have z := (h13.push k7 t7p rfl).push (k8.keep fun y q => by cases q; exact t8p) t8p rfl
                  rw [upd_upd, upd_upd, List.append_assoc] at z
                  rw [hid_oth n13.1 n13.2]
                  exact z
                · rw [flatL_snoc2 (okl1 _ ok7) ok8, flatL_snoc2 mok ok7, nestL_assoc, con_two f1 gpos fg, mf, ft]
              · refine ⟨p13, us ++ two (-1) (.ref t7) (.ref t8), Ms ++ [.con wt (m / f)] ++ [.con wt f], _, _, _, _, rfl, hp13, ?_, okl _ _ ok8 ok7, ll _ _, ?_, Bend⟩
                · have z := (h13.push k8 t8p rfl).push (k7.keep fun y q => by cases q; exact t7p) t7p rfl
                  rw [upd_upd, upd_upd, List.append_assoc] at z
                  rw [hid_oth n13.1 n13.2]
                  exact z
                · rw [flatL_snoc2 (okl1 _ ok8) ok7, flatL_snoc2 mok ok8, nestL_assoc, con_two gpos f1 ((Int.mul_comm _ _).trans fg), mf, ft]
          · refine ⟨_, rfl, .inl ⟨rfl, _, sql (hid_get hm.1).1⟩, _, rfl, p, us, _, rfl, rfl, (hid_get hm.1).1, size_lt (by omega), p, us ++ [.ref x], Ms ++ [.con wt m], _, _, _, _, rfl, hp, ?_, ?_, ?_, ?_, (B4.mut hS hp).mono (by omega)⟩
            · rw [hid_oth np.1 np.2]
              exact hm.push hL4 xp rfl
            · intro M hM
              rcases List.mem_append.mp hM with z | z
              · exact mok M z
              · rw [List.mem_singleton.mp z]
                exact nL.1
            · rw [List.length_append]
              show Ms.length + 1 ≤ 3 * (i + 1)
              omega
            · rw [flatL_snoc2 mok nL.1, mf, ft]
  · obtain ⟨p, us, Ms, y3, y4, y5, y6, rfl, _, hm, mok, ml, mf, A2⟩ := h
    rw [hvl, List.take_length] at mf
    exact ⟨_, rfl, k H2 p us Ms (A2.mono (by omega)) hm mok (by omega) mf⟩

end
end Rn
namespace Rn
open PySem PySem.Spec PyProof.Rows L2
section
variable {P : Program} {w : World} {K : PySem.W.Frag} {mg : Str → Option Value} {base : Heap}
def sp_law (K : PySem.W.Frag) : Sp := fun vs H Q _ => ∃ (a : Addr) (ns : List Int), vs = [.ref a] ∧ SqL K H a (ns.map V.int) ∧ ns.length ≤ 63 ∧ ∀ H', Q (.bl true) H'
abbrev lvl_law : Nat := 6
theorem ok_law (T : Txt K mg) : FnOk P w K mg base CX0 lvl_law T.f_law T.d_law ["script"] (sp_law K) := by
  have G_law_source := (ok_law_source (P := P) (w := w) (base := base) T).mono (by decide : 1 ≤ 5)
  have G_law_draw := (ok_law_draw (P := P) (w := w) (base := base) T).mono (by decide : 1 ≤ 5)
  have G_law_wait_drawn := (ok_law_wait_drawn (P := P) (w := w) (base := base) T).mono (by decide : 2 ≤ 5)
  have G_law_nesting := (ok_law_nesting (P := P) (w := w) (base := base) T).mono (by decide : 4 ≤ 5)
  have G_law_rewritten := (ok_law_rewritten (P := P) (w := w) (base := base) T).mono (by decide : 3 ≤ 5)
  have G_attempts := (ok_attempts (P := P) (w := w) (base := base) T).mono (by decide : 4 ≤ 5)
  have G_flatten := ok_flatten (P := P) (w := w) (base := base) T
  refine T.F_law.ok sc_law (fun vs H Q E h => ?_) (fun cdv A outer s H vs Q E hr h => ?_)
  · obtain ⟨a, ns, rfl, _⟩ := h
    rfl
  obtain ⟨sa, ns, rfl, hS, hl, q⟩ := h
  refine ⟨_, (pss_cons (ps_set (i := 1) sc_law.nd rfl (Or.inl rfl) (pe_call G_law_source hr (by rfl) T.g_law_source T.F_law_source.kp T.b_law_source .nil pass0 (pa_cons (pv 0) pa_nil)))
      (pss_cons (ps_for PassesOwn.never rfl (pi_range1 (by rfl) T.m_range (pa_cons (pe_op op_add pe_int (pe_callB (call_min2 rfl) (by rfl) T.m_min (by decide +kernel) (pa_cons pe_int (pa_cons (pe_callB call_len_seq (by rfl) T.m_len PySem.boot_len (pa_cons (pv 0) pa_nil)) pa_nil)))) pa_nil)) (pg_name (i := 2) sc_law.nd rfl (Or.inl rfl))
      (pss_one (ps_for PassesOwn.never rfl (pi_range1 (by rfl) T.m_range (pa_cons pe_int pa_nil)) (pg_name (i := 3) sc_law.nd rfl (Or.inl rfl))
      (pss_cons (ps_set (i := 4) sc_law.nd rfl (Or.inl rfl) (pe_call G_law_nesting hr (by rfl) T.g_law_nesting T.F_law_nesting.kp T.b_law_nesting .nil pass0 (pa_cons (pv 1) (pa_cons pe_int (pa_cons pe_int pa_nil)))))
      (pss_cons (ps_set (i := 5) sc_law.nd rfl (Or.inl rfl) (pe_slice sl_list (pe_call G_law_rewritten hr (by rfl) T.g_law_rewritten T.F_law_rewritten.kp T.b_law_rewritten .nil pass0 (pa_cons (pv 1) (pa_cons (pv 4) pa_nil))) po_none (po_some pe_int)))
      (Evl.pss_cut (ps_if (pt_cmpR op_eq (pe_callB call_len_seq (by rfl) T.m_len PySem.boot_len (pa_cons (pv 5) pa_nil)) pe_int (nomark _))
      (pss_one (ps_set (i := 5) sc_law.nd rfl (Or.inl rfl) (pv 4)))
      pss_nil)
      (pss_cons (ps_if (PW.pt (pw_or (pt_cmpR (op_neD hr.units) (pe_call G_flatten hr (by rfl) T.g_flatten T.F_flatten.kp T.b_flatten .nil pass0 (pa_cons (pv 5) pa_nil)) (pe_call G_flatten hr (by rfl) T.g_flatten T.F_flatten.kp T.b_flatten .nil pass0 (pa_cons (pv 4) pa_nil)) (nomark _)) (pw_or1 (pt_cmpR op_ne (pe_call G_attempts hr (by rfl) T.g_attempts T.F_attempts.kp T.b_attempts .nil pass0 (pa_cons (pv 5) pa_nil)) (pe_call G_attempts hr (by rfl) T.g_attempts T.F_attempts.kp T.b_attempts .nil pass0 (pa_cons (pv 4) pa_nil)) (nomark _)))))
      (pss_one (ps_ret pe_bl))
      pss_nil)
      (pss_cons (ps_par3 (i := 6) (j := 7) (l := 8) rfl sc_law.nd rfl rfl rfl (by decide) (by decide) (by decide) rfl rfl rfl (pa_cons (pe_call G_law_wait_drawn hr (by rfl) T.g_law_wait_drawn T.F_law_wait_drawn.kp T.b_law_wait_drawn .nil pass0 (pa_cons (pv 1) pa_nil)) (pa_cons (pe_op op_add pe_int (pe_call G_law_draw hr (by rfl) T.g_law_draw T.F_law_draw.kp T.b_law_draw .nil pass0 (pa_cons (pv 1) (pa_cons pe_int pa_nil)))) (pa_cons (pe_op op_add pe_int (pe_call G_law_draw hr (by rfl) T.g_law_draw T.F_law_draw.kp T.b_law_draw .nil pass0 (pa_cons (pv 1) (pa_cons pe_int pa_nil)))) pa_nil))) (by rfl))
      (pss_cons (ps_if (pt_cmpR (op_neD hr.units) (pe_call G_flatten hr (by rfl) T.g_flatten T.F_flatten.kp T.b_flatten .nil pass0 (pa_cons (pe_lst (pa_cons (pe_tup (pa_cons (pv 6) (pa_cons (pv 7) pa_nil))) (pa_cons (pe_tup (pa_cons (pv 6) (pa_cons (pv 8) pa_nil))) pa_nil))) pa_nil)) (pe_call G_flatten hr (by rfl) T.g_flatten T.F_flatten.kp T.b_flatten .nil pass0 (pa_cons (pe_lst (pa_cons (pe_tup (pa_cons (pv 6) (pa_cons (pv 8) pa_nil))) (pa_cons (pe_tup (pa_cons (pv 6) (pa_cons (pv 7) pa_nil))) pa_nil))) pa_nil)) (nomark _))
      (pss_one (ps_ret pe_bl))
      pss_nil)
      (pss_one (ps_if (pt_cmpR (op_neD hr.units) (pe_call G_flatten hr (by rfl) T.g_flatten T.F_flatten.kp T.b_flatten .nil pass0 (pa_cons (pe_lst (pa_cons (pe_tup (pa_cons (pv 6) (pa_cons (pv 7) pa_nil))) (pa_cons (pe_tup (pa_cons (pv 6) (pa_cons (pv 8) pa_nil))) pa_nil))) pa_nil)) (pe_op op_rep (pe_lst (pa_cons (pv 6) pa_nil)) (pe_op op_sub (pe_op op_mul (pv 7) (pv 8)) pe_int)) (nomark _))
      (pss_one (ps_ret pe_bl))
      pss_nil)))))))))))
      (pss_one (ps_ret pe_bl)))), ?_⟩
  refine ⟨_, rfl, sa, ns, rfl, hS, hl, fun H1 a d s1 _ _ S1 => ?_⟩
  have hlen : (ns.map V.int).length ≤ 63 := by rw [List.length_map]; exact hl
  have hmin : ∀ z : Int, (if z < 8 then z else 8) ≤ 8 := fun z => by split <;> omega
  have hmin0 : 0 ≤ (if (((ns.map V.int).length : Nat) : Int) < 8 then (((ns.map V.int).length : Nat) : Int) else 8) := by split <;> omega
  have hm1 := hmin (((ns.map V.int).length : Nat) : Int)
  refine ⟨_, rfl, sa, _, rfl, .inl (s1.seq hS), _, _, rfl, _, _, rfl, rfl, _, rfl, by omega, by omega, ?_⟩
  refine for_range (lo := 0) (n := (3 + (if (((ns.map V.int).length : Nat) : Int) < 8 then (((ns.map V.int).length : Nat) : Int) else 8)).toNat)
    (fun i σ H' => (∃ y2 y3 y4 y5 y6 y7 y8, σ = [some (.ref sa), some (.ref a), y2, y3, y4, y5, y6, y7, y8]) ∧ Adv a d (50000 * i) H1 H') ⟨⟨_, _, _, _, _, _, _, rfl⟩, Adv.refl⟩ (fun i σ H2 hi h => ?_) (fun σ H2 h => q H2)
  obtain ⟨⟨y2, y3, y4, y5, y6, y7, y8, rfl⟩, A2⟩ := h
  have hi' : (i : Int) < 11 := by omega
  refine ⟨_, rfl, by decide, by decide, ?_⟩
  refine for_range (lo := 0) (n := 4) (fun j σ H' => (∃ y2 y3 y4 y5 y6 y7 y8, σ = [some (.ref sa), some (.ref a), y2, y3, y4, y5, y6, y7, y8]) ∧ Adv a d (50000 * i + 6000 * j) H1 H')
    ⟨⟨_, _, _, _, _, _, _, rfl⟩, A2.mono (by omega)⟩ (fun j σ H3 hj h => ?_) (fun σ H3 h => ?_)
  · obtain ⟨⟨y2, y3, y4, y5, y6, y7, y8, rfl⟩, A3⟩ := h
    have S3 := A3.src 0 S1
    -- layers, other
    refine ⟨_, rfl, a, d, _, 6, 600, rfl, S3, by omega, by decide, by decide, by decide, by decide, fun H4 p us Ls A4 f4 v4 l4 n4 a4 => ?_⟩
    have S4 := A4.src _ S3
    have ok4 : ∀ L ∈ Ls, L.ok = true := fun L hL => (n4 L hL).1
    refine ⟨_, rfl, _, rfl, a, d, p, _, Ls, rfl, S4, by omega, v4.nest, n4, by omega, fun H5 po uo Ms A5 v5 ok5 l5 fl5 => ?_⟩
    have S5 := A5.src _ S4
    have v45 := v4.same A5.same
    refine ⟨8, rfl, po, uo, rfl, sql (hid_get v5.1).1, fun F hF => ?_⟩
    rw [show (8 : Int) = ((8 : Nat) : Int) from rfl, cut_n]
    have s6 := same_new (o := .lst (uo.take 8)) hF
    have B6 : Adv a d 3310 H3 (upd H5 F (.lst (uo.take 8))) := ((A4.trans A5 (Int.le_refl _)).trans (Adv.of s6) (Int.le_refl _)).mono (by omega)
    have e6 := upd_same (H := H5) (a := F) (o := .lst (uo.take 8))
    have nF := S5.new1 hF
    have v46 := v45.same (hid_same (a := a) (d := d) s6)
    have v6 : uo.length < 8 → NestAt (upd H5 F (.lst (uo.take 8))) F Ms := fun hlt => by
      have z := v5.fresh (G' := hid a d H5) (p' := F) (Same.refl _) (hid_none hF)
      rw [← hid_oth nF.1 nF.2] at z
      rw [List.take_of_length_le (by omega)]
      exact z.low
    generalize upd H5 F (.lst (uo.take 8)) = H6 at *
    have nl6 : NestAt H6 p Ls := v46.low
    -- if len(other) == 8: other = layers
    have fll := flatL_len _ Ls rfl ok4
    refine ⟨fun σ' H' => ∃ o Ns, σ' = [some (.ref sa), some (.ref a), y2, some (.int (0 + (j : Int))), some (.ref p), some (.ref o), y6, y7, y8] ∧ NestAt H' o Ns ∧ (∀ L ∈ Ns, L.ok = true) ∧ Ns.length ≤ 60 ∧ flatL Ns = flatL Ls ∧ H' = H6, ?_, fun σ' H7 h7 => ?_⟩
    · refine ⟨_, rfl, F, _, rfl, .inl (sql e6), rfl, _, rfl, ite2 (fun _ => ?_) (fun e => ?_)⟩
      · exact ⟨_, rfl, p, Ls, rfl, nl6, ok4, by omega, rfl, rfl⟩
      · refine ⟨F, Ms, rfl, v6 ?_, ok5, l5, fl5, rfl⟩
        have e' : ¬ ((uo.take 8).length : Int) = 8 := fun z => e (decide_eq_true (congrArg V.int z))
        rw [List.length_take] at e'
        omega
    · obtain ⟨o, Ns, rfl, hN, okN, lN, fN, rfl⟩ := h7
      have flN := flatL_len _ Ns rfl okN
      rw [fN] at flN
      have attE : attOf Ns = attOf Ls := by omega
      have small : ∀ {Xs : List Lay}, (∀ L ∈ Xs, L.ok = true) → attOf Xs ≤ 10000 → ∀ L ∈ Xs, L.ok = true ∧ L.cnt < 2 ^ 100 := fun {Xs} ho ha L hL => ⟨ho L hL, by have := cnt_le ho hL; omega⟩
      -- if flatten(other) != flatten(layers) or attempts(other) != attempts(layers)
      refine ⟨_, rfl, o, Ns, rfl, hN, okN, by omega, by omega, fun H8 r8 s8 f8 e8 => ?_⟩
      refine ⟨_, rfl, p, Ls, rfl, nl6.same s8, ok4, by omega, by omega, fun H9 r9 s9 f9 e9 => ?_⟩
      refine ⟨_, _, dp_ints (sql (s9 _ _ e8)), dp_ints (sql e9), shaped_ints _, shaped_ints _, _, rfl, ne_no fN ?_⟩
      have t9 := s8.trans s9
      refine ⟨_, rfl, o, Ns, rfl, hN.same t9, small okN (by omega), by omega, fun H10 s10 => ?_⟩
      refine ⟨_, rfl, p, Ls, rfl, nl6.same (t9.trans s10), small ok4 (by omega), by omega, fun H11 s11 => ⟨rfl, _, rfl, iteNS (by rw [attE]) ?_⟩⟩
      have B11 : Adv a d 3310 H3 H11 := (B6.trans (Adv.of ((t9.trans s10).trans s11)) (Int.le_refl _)).mono (by omega)
      have S11 := B11.src _ S3
      -- wait, one, two = ..
      refine ⟨_, rfl, a, d, _, rfl, S11, by omega, fun H12 wt A12 lw uw => ?_⟩
      have S12 := A12.src _ S11
      refine ⟨_, rfl, a, d, _, 30, rfl, S12, by omega, by decide, by decide, fun H13 x A13 lx ux => ⟨_, _, rfl, rfl, ?_⟩⟩
      have S13 := A13.src _ S12
      refine ⟨_, rfl, a, d, _, 30, rfl, S13, by omega, by decide, by decide, fun H14 y A14 ly uy => ⟨_, _, rfl, rfl, .int wt, .int (1 + x), .int (1 + y), rfl, ?_⟩⟩
      have B14 : Adv a d 3330 H3 H14 := (((B11.trans A12 (Int.le_refl _)).trans A13 (Int.le_refl _)).trans A14 (Int.le_refl _)).mono (by omega)
      obtain ⟨one, h1⟩ : ∃ z, 1 + x = z := ⟨_, rfl⟩
      obtain ⟨two, h2⟩ : ∃ z, 1 + y = z := ⟨_, rfl⟩
      rw [h1, h2]
      have b1 : 1 ≤ one ∧ one ≤ 30 := by omega
      have b2 : 1 ≤ two ∧ two ≤ 30 := by omega
      have okp : ∀ u v : Int, 1 ≤ u → 1 ≤ v → ∀ L ∈ [Lay.con wt u, .con wt v], L.ok = true := fun u v hu hv L hL => by
        simp only [List.mem_cons, List.not_mem_nil, or_false] at hL
        rcases hL with rfl | rfl
        · rw [Lay.ok_con, decide_eq_true lw, decide_eq_true hu]; rfl
        · rw [Lay.ok_con, decide_eq_true lw, decide_eq_true hv]; rfl
      have prod : 1 ≤ one * two ∧ one * two ≤ 900 := by
        have p1 : 1 * two ≤ one * two := Int.mul_le_mul_of_nonneg_right b1.1 (by omega)
        have p2 : one * two ≤ 30 * two := Int.mul_le_mul_of_nonneg_right b1.2 (by omega)
        omega
      have fp : ∀ u v : Int, 1 ≤ u → 1 ≤ v → u * v = one * two → flatL [Lay.con wt u, .con wt v] = List.replicate (one * two - 1).toNat wt := fun u v hu hv huv => by
        rw [flatL_fold (okp u v hu hv)]
        show nestL (nestL [] (Lay.con wt u).waits) (Lay.con wt v).waits = _
        rw [nil_nestL, con_two hu hv huv]
        rfl
      have ap : ∀ u v : Int, u * v = one * two → attOf [Lay.con wt u, .con wt v] ≤ 10000 := fun u v huv => by
        show 1 * u * v ≤ 10000
        rw [Int.one_mul, huv]
        omega
      have two5 : ∀ u v : Int, ([Lay.con wt u, .con wt v] : List Lay).length ≤ 5000 := fun _ _ => by show 2 ≤ 5000; decide
      -- one after the other in both orders
      refine ⟨_, rfl, _, rfl, size_le (by show 2 ≤ 100000; decide), fun t1 f1 => ⟨_, rfl, _, rfl, size_le (by show 2 ≤ 100000; decide), fun t2 f2 => ⟨size_le (by show 2 ≤ 100000; decide), fun o3 f3 => ?_⟩⟩⟩
      refine ⟨o3, [.con wt one, .con wt two], rfl, nest_of upd_same (.cons ⟨t1, rfl, same_new f3 _ _ (same_new f2 _ _ upd_same)⟩ (.cons ⟨t2, rfl, same_new f3 _ _ upd_same⟩ .nil)), okp _ _ b1.1 b2.1, two5 _ _, ap _ _ rfl, fun H15 r15 s15 f15 e15 => ?_⟩
      refine ⟨_, rfl, _, rfl, size_le (by show 2 ≤ 100000; decide), fun t4 f4 => ⟨_, rfl, _, rfl, size_le (by show 2 ≤ 100000; decide), fun t5 f5 => ⟨size_le (by show 2 ≤ 100000; decide), fun o6 f6 => ?_⟩⟩⟩
      refine ⟨o6, [.con wt two, .con wt one], rfl, nest_of upd_same (.cons ⟨t4, rfl, same_new f6 _ _ (same_new f5 _ _ upd_same)⟩ (.cons ⟨t5, rfl, same_new f6 _ _ upd_same⟩ .nil)), okp _ _ b2.1 b1.1, two5 _ _, ap _ _ (Int.mul_comm _ _), fun H16 r16 s16 f16 e16 => ?_⟩
      rw [fp _ _ b1.1 b2.1 rfl] at e15
      rw [fp _ _ b2.1 b1.1 (Int.mul_comm _ _)] at e16
      have e15' := s16 _ _ (same_new f6 _ _ (same_new f5 _ _ (same_new f4 _ _ e15)))
      refine ⟨_, _, dp_ints (sql e15'), dp_ints (sql e16), shaped_ints _, shaped_ints _, _, rfl, ne_no rfl ?_⟩
      -- the same as one constant policy
      refine ⟨_, rfl, _, rfl, size_le (by show 2 ≤ 100000; decide), fun t7 f7 => ⟨_, rfl, _, rfl, size_le (by show 2 ≤ 100000; decide), fun t8 f8 => ⟨size_le (by show 2 ≤ 100000; decide), fun o9 f9 => ?_⟩⟩⟩
      refine ⟨o9, [.con wt one, .con wt two], rfl, nest_of upd_same (.cons ⟨t7, rfl, same_new f9 _ _ (same_new f8 _ _ upd_same)⟩ (.cons ⟨t8, rfl, same_new f9 _ _ upd_same⟩ .nil)), okp _ _ b1.1 b2.1, two5 _ _, ap _ _ rfl, fun H17 r17 s17 f17 e17 => ?_⟩
      rw [fp _ _ b1.1 b2.1 rfl] at e17
      refine ⟨_, rfl, size_le (by show 1 ≤ 100000; decide), fun o18 f18 => ?_⟩
      refine ⟨_, rfl, _, rfl, _, _, rfl, rfl, .inl ⟨by omega, by omega⟩, _, _, rfl, rfl, o18, one * two - 1, _, rfl, rfl, upd_same, by omega, by omega, size_le (by show 1 * (one * two - 1).toNat ≤ 100000; omega), fun r19 f19 => ?_⟩
      have e19 : (List.replicate (one * two - 1).toNat [V.int wt]).flatten = ((List.replicate (one * two - 1).toNat wt).map V.int) := by rw [rep_flat, List.map_replicate]
      rw [e19]
      refine ⟨_, _, dp_ints (sql (same_new f19 _ _ (same_new f18 _ _ e17))), dp_ints (sql upd_same), shaped_ints _, shaped_ints _, _, rfl, ne_no rfl ?_⟩
      refine ⟨⟨_, _, _, _, _, _, _, rfl⟩, ?_⟩
      have u15 := ((same_new (o := .tup [.int wt, .int one]) f1).trans (same_new (o := .tup [.int wt, .int two]) f2)).trans (same_new (o := .lst [.ref t1, .ref t2]) f3)
      have u16 := ((same_new (o := .tup [.int wt, .int two]) f4).trans (same_new (o := .tup [.int wt, .int one]) f5)).trans (same_new (o := .lst [.ref t4, .ref t5]) f6)
      have u17 := ((same_new (o := .tup [.int wt, .int one]) f7).trans (same_new (o := .tup [.int wt, .int two]) f8)).trans (same_new (o := .lst [.ref t7, .ref t8]) f9)
      have tot := (((((u15.trans s15).trans u16).trans s16).trans u17).trans s17).trans ((same_new (o := .lst [.int wt]) f18).trans (same_new (o := .lst ((List.replicate (one * two - 1).toNat wt).map V.int)) f19))
      exact ((A3.trans B14 (Int.le_refl _)).trans (Adv.of tot) (Int.le_refl _)).mono (by omega)
  · obtain ⟨⟨y2, y3, y4, y5, y6, y7, y8, rfl⟩, A3⟩ := h
    exact ⟨⟨_, _, _, _, _, _, _, rfl⟩, A3.mono (by omega)⟩

end
end Rn
namespace Rn
open PySem PySem.Spec PyProof.Rows L2
theorem all_mk {l : PySem.W.OpenLaw} {w : World} {K : PySem.W.Frag} {h : Heap} {mg : Str → Option Value} {fa f0 f1 f2 f3 f4 f5 f6 f7 f8 f9 f10 f11 f12 f13 f14 f15 : Addr} (X : K.In h) (G : h.Ns mainGlobals mg) (hfa : mg "law" = some (.ref fa))
    {od0 an0 od1 an1 od2 an2 od3 an3 od4 an4 od5 an5 od6 an6 od7 an7 od8 an8 od9 an9 od10 an10 od11 an11 od12 an12 od13 an13 od14 an14 od15 an15 : Option Addr} {sl0 sl1 sl2 sl3 sl4 sl5 sl6 sl7 sl8 sl9 sl10 sl11 sl12 sl13 sl14 sl15 : Array (Option Value)} {oc0 kV0 dc0 pm0 cd0 ct0 oc1 kV1 dc1 pm1 cd1 ct1 oc2 kV2 dc2 pm2 cd2 ct2 oc3 kV3 dc3 pm3 cd3 ct3 oc4 kV4 dc4 pm4 cd4 ct4 oc5 kV5 dc5 pm5 cd5 ct5 oc6 kV6 dc6 pm6 cd6 ct6 oc7 kV7 dc7 pm7 cd7 ct7 oc8 kV8 dc8 pm8 cd8 ct8 oc9 kV9 dc9 pm9 cd9 ct9 oc10 kV10 dc10 pm10 cd10 ct10 oc11 kV11 dc11 pm11 cd11 ct11 oc12 kV12 dc12 pm12 cd12 ct12 oc13 kV13 dc13 pm13 cd13 ct13 oc14 kV14 dc14 pm14 cd14 ct14 oc15 kV15 dc15 pm15 cd15 ct15 : Value}
    (a0 : PySem.W.nsIn K mainGlobals "first_negative" = some (some (.ref f0))) (l0 : K.lookup f0 = some ⟨oc0, od0, .func (PySem.W.fnOf "first_negative" "first_negative" (defArgs s_first_negative) (defBody s_first_negative) (defScope s_first_negative) .none kV0 dc0 pm0 an0 cd0 ct0), sl0⟩) (c0 : PySem.W.codeIn K cd0 "first_negative" = true) (k0 : PySem.W.keepIn K (.ref f0) = true)
    (a1 : PySem.W.nsIn K mainGlobals "is_valid_layer" = some (some (.ref f1))) (l1 : K.lookup f1 = some ⟨oc1, od1, .func (PySem.W.fnOf "is_valid_layer" "is_valid_layer" (defArgs s_is_valid_layer) (defBody s_is_valid_layer) (defScope s_is_valid_layer) .none kV1 dc1 pm1 an1 cd1 ct1), sl1⟩) (c1 : PySem.W.codeIn K cd1 "is_valid_layer" = true) (k1 : PySem.W.keepIn K (.ref f1) = true)
    (a2 : PySem.W.nsIn K mainGlobals "check_nesting" = some (some (.ref f2))) (l2 : K.lookup f2 = some ⟨oc2, od2, .func (PySem.W.fnOf "check_nesting" "check_nesting" (defArgs s_check_nesting) (defBody s_check_nesting) (defScope s_check_nesting) .none kV2 dc2 pm2 an2 cd2 ct2), sl2⟩) (c2 : PySem.W.codeIn K cd2 "check_nesting" = true) (k2 : PySem.W.keepIn K (.ref f2) = true)
    (a3 : PySem.W.nsIn K mainGlobals "check_size" = some (some (.ref f3))) (l3 : K.lookup f3 = some ⟨oc3, od3, .func (PySem.W.fnOf "check_size" "check_size" (defArgs s_check_size) (defBody s_check_size) (defScope s_check_size) .none kV3 dc3 pm3 an3 cd3 ct3), sl3⟩) (c3 : PySem.W.codeIn K cd3 "check_size" = true) (k3 : PySem.W.keepIn K (.ref f3) = true)
    (a4 : PySem.W.nsIn K mainGlobals "nested" = some (some (.ref f4))) (l4 : K.lookup f4 = some ⟨oc4, od4, .func (PySem.W.fnOf "nested" "nested" (defArgs s_nested) (defBody s_nested) (defScope s_nested) .none kV4 dc4 pm4 an4 cd4 ct4), sl4⟩) (c4 : PySem.W.codeIn K cd4 "nested" = true) (k4 : PySem.W.keepIn K (.ref f4) = true)
    (a5 : PySem.W.nsIn K mainGlobals "layer_attempts" = some (some (.ref f5))) (l5 : K.lookup f5 = some ⟨oc5, od5, .func (PySem.W.fnOf "layer_attempts" "layer_attempts" (defArgs s_layer_attempts) (defBody s_layer_attempts) (defScope s_layer_attempts) .none kV5 dc5 pm5 an5 cd5 ct5), sl5⟩) (c5 : PySem.W.codeIn K cd5 "layer_attempts" = true) (k5 : PySem.W.keepIn K (.ref f5) = true)
    (a6 : PySem.W.nsIn K mainGlobals "layer_waits" = some (some (.ref f6))) (l6 : K.lookup f6 = some ⟨oc6, od6, .func (PySem.W.fnOf "layer_waits" "layer_waits" (defArgs s_layer_waits) (defBody s_layer_waits) (defScope s_layer_waits) .none kV6 dc6 pm6 an6 cd6 ct6), sl6⟩) (c6 : PySem.W.codeIn K cd6 "layer_waits" = true) (k6 : PySem.W.keepIn K (.ref f6) = true)
    (a7 : PySem.W.nsIn K mainGlobals "attempts" = some (some (.ref f7))) (l7 : K.lookup f7 = some ⟨oc7, od7, .func (PySem.W.fnOf "attempts" "attempts" (defArgs s_attempts) (defBody s_attempts) (defScope s_attempts) .none kV7 dc7 pm7 an7 cd7 ct7), sl7⟩) (c7 : PySem.W.codeIn K cd7 "attempts" = true) (k7 : PySem.W.keepIn K (.ref f7) = true)
    (a8 : PySem.W.nsIn K mainGlobals "flatten" = some (some (.ref f8))) (l8 : K.lookup f8 = some ⟨oc8, od8, .func (PySem.W.fnOf "flatten" "flatten" (defArgs s_flatten) (defBody s_flatten) (defScope s_flatten) .none kV8 dc8 pm8 an8 cd8 ct8), sl8⟩) (c8 : PySem.W.codeIn K cd8 "flatten" = true) (k8 : PySem.W.keepIn K (.ref f8) = true)
    (a9 : PySem.W.nsIn K mainGlobals "_law_source" = some (some (.ref f9))) (l9 : K.lookup f9 = some ⟨oc9, od9, .func (PySem.W.fnOf "_law_source" "_law_source" (defArgs s_law_source) (defBody s_law_source) (defScope s_law_source) .none kV9 dc9 pm9 an9 cd9 ct9), sl9⟩) (c9 : PySem.W.codeIn K cd9 "_law_source" = true) (k9 : PySem.W.keepIn K (.ref f9) = true)
    (a10 : PySem.W.nsIn K mainGlobals "_law_draw" = some (some (.ref f10))) (l10 : K.lookup f10 = some ⟨oc10, od10, .func (PySem.W.fnOf "_law_draw" "_law_draw" (defArgs s_law_draw) (defBody s_law_draw) (defScope s_law_draw) .none kV10 dc10 pm10 an10 cd10 ct10), sl10⟩) (c10 : PySem.W.codeIn K cd10 "_law_draw" = true) (k10 : PySem.W.keepIn K (.ref f10) = true)
    (a11 : PySem.W.nsIn K mainGlobals "_law_wait_drawn" = some (some (.ref f11))) (l11 : K.lookup f11 = some ⟨oc11, od11, .func (PySem.W.fnOf "_law_wait_drawn" "_law_wait_drawn" (defArgs s_law_wait_drawn) (defBody s_law_wait_drawn) (defScope s_law_wait_drawn) .none kV11 dc11 pm11 an11 cd11 ct11), sl11⟩) (c11 : PySem.W.codeIn K cd11 "_law_wait_drawn" = true) (k11 : PySem.W.keepIn K (.ref f11) = true)
    (a12 : PySem.W.nsIn K mainGlobals "_law_policy" = some (some (.ref f12))) (l12 : K.lookup f12 = some ⟨oc12, od12, .func (PySem.W.fnOf "_law_policy" "_law_policy" (defArgs s_law_policy) (defBody s_law_policy) (defScope s_law_policy) .none kV12 dc12 pm12 an12 cd12 ct12), sl12⟩) (c12 : PySem.W.codeIn K cd12 "_law_policy" = true) (k12 : PySem.W.keepIn K (.ref f12) = true)
    (a13 : PySem.W.nsIn K mainGlobals "_law_nesting" = some (some (.ref f13))) (l13 : K.lookup f13 = some ⟨oc13, od13, .func (PySem.W.fnOf "_law_nesting" "_law_nesting" (defArgs s_law_nesting) (defBody s_law_nesting) (defScope s_law_nesting) .none kV13 dc13 pm13 an13 cd13 ct13), sl13⟩) (c13 : PySem.W.codeIn K cd13 "_law_nesting" = true) (k13 : PySem.W.keepIn K (.ref f13) = true)
    (a14 : PySem.W.nsIn K mainGlobals "_law_rewritten" = some (some (.ref f14))) (l14 : K.lookup f14 = some ⟨oc14, od14, .func (PySem.W.fnOf "_law_rewritten" "_law_rewritten" (defArgs s_law_rewritten) (defBody s_law_rewritten) (defScope s_law_rewritten) .none kV14 dc14 pm14 an14 cd14 ct14), sl14⟩) (c14 : PySem.W.codeIn K cd14 "_law_rewritten" = true) (k14 : PySem.W.keepIn K (.ref f14) = true)
    (a15 : PySem.W.nsIn K mainGlobals "law" = some (some (.ref f15))) (l15 : K.lookup f15 = some ⟨oc15, od15, .func (PySem.W.fnOf "law" "law" (defArgs s_law) (defBody s_law) (defScope s_law) .none kV15 dc15 pm15 an15 cd15 ct15), sl15⟩) (c15 : PySem.W.codeIn K cd15 "law" = true) (k15 : PySem.W.keepIn K (.ref f15) = true)
    (z0 : PySem.W.nsIn K mainGlobals "enumerate" = some none)
    (z1 : PySem.W.nsIn K mainGlobals "isinstance" = some none)
    (z2 : PySem.W.nsIn K mainGlobals "len" = some none)
    (z3 : PySem.W.nsIn K mainGlobals "list" = some none)
    (z4 : PySem.W.nsIn K mainGlobals "max" = some none)
    (z5 : PySem.W.nsIn K mainGlobals "min" = some none)
    (z6 : PySem.W.nsIn K mainGlobals "range" = some none)
    (z7 : PySem.W.nsIn K mainGlobals "tuple" = some none)
    {y0 : Tok} (x0 : PySem.W.nsIn K mainGlobals "MOST_ATTEMPTS" = some (some (.int 10000 y0)))
    : ∃ fd : FuncData, (∀ (s : Shared) (v : Value), BindsTo s fd ⟨[v], []⟩ [("script", v)]) ∧ ∀ base : Heap, K.In base → base.Ns mainGlobals mg → FnOk l.prog w K mg base CX0 lvl_law fa fd ["script"] (sp_law K) := by
  have e := hfa.symm.trans (PySem.W.mg_of X G a15)
  cases e
  have F0 := fun_mk (st := s_first_negative) l0 c0 k0
  have F1 := fun_mk (st := s_is_valid_layer) l1 c1 k1
  have F2 := fun_mk (st := s_check_nesting) l2 c2 k2
  have F3 := fun_mk (st := s_check_size) l3 c3 k3
  have F4 := fun_mk (st := s_nested) l4 c4 k4
  have F5 := fun_mk (st := s_layer_attempts) l5 c5 k5
  have F6 := fun_mk (st := s_layer_waits) l6 c6 k6
  have F7 := fun_mk (st := s_attempts) l7 c7 k7
  have F8 := fun_mk (st := s_flatten) l8 c8 k8
  have F9 := fun_mk (st := s_law_source) l9 c9 k9
  have F10 := fun_mk (st := s_law_draw) l10 c10 k10
  have F11 := fun_mk (st := s_law_wait_drawn) l11 c11 k11
  have F12 := fun_mk (st := s_law_policy) l12 c12 k12
  have F13 := fun_mk (st := s_law_nesting) l13 c13 k13
  have F14 := fun_mk (st := s_law_rewritten) l14 c14 k14
  have F15 := fun_mk (st := s_law) l15 c15 k15
  have b0 := F0.binds (ps := ["waits"]) fun _ _ _ _ _ _ us hl => match us, hl with | [_], _ => rfl
  have b1 := F1.binds (ps := ["layer"]) fun _ _ _ _ _ _ us hl => match us, hl with | [_], _ => rfl
  have b2 := F2.binds (ps := ["nesting"]) fun _ _ _ _ _ _ us hl => match us, hl with | [_], _ => rfl
  have b3 := F3.binds (ps := ["total"]) fun _ _ _ _ _ _ us hl => match us, hl with | [_], _ => rfl
  have b4 := F4.binds (ps := ["inner", "outer"]) fun _ _ _ _ _ _ us hl => match us, hl with | [_, _], _ => rfl
  have b5 := F5.binds (ps := ["layer"]) fun _ _ _ _ _ _ us hl => match us, hl with | [_], _ => rfl
  have b6 := F6.binds (ps := ["layer"]) fun _ _ _ _ _ _ us hl => match us, hl with | [_], _ => rfl
  have b7 := F7.binds (ps := ["nesting"]) fun _ _ _ _ _ _ us hl => match us, hl with | [_], _ => rfl
  have b8 := F8.binds (ps := ["nesting"]) fun _ _ _ _ _ _ us hl => match us, hl with | [_], _ => rfl
  have b9 := F9.binds (ps := ["script"]) fun _ _ _ _ _ _ us hl => match us, hl with | [_], _ => rfl
  have b10 := F10.binds (ps := ["source", "many"]) fun _ _ _ _ _ _ us hl => match us, hl with | [_, _], _ => rfl
  have b11 := F11.binds (ps := ["source"]) fun _ _ _ _ _ _ us hl => match us, hl with | [_], _ => rfl
  have b12 := F12.binds (ps := ["source", "most"]) fun _ _ _ _ _ _ us hl => match us, hl with | [_, _], _ => rfl
  have b13 := F13.binds (ps := ["source", "layers", "most"]) fun _ _ _ _ _ _ us hl => match us, hl with | [_, _, _], _ => rfl
  have b14 := F14.binds (ps := ["source", "layers"]) fun _ _ _ _ _ _ us hl => match us, hl with | [_, _], _ => rfl
  have b15 := F15.binds (ps := ["script"]) fun _ _ _ _ _ _ us hl => match us, hl with | [_], _ => rfl
  have T : Txt K mg := ⟨f0, _, F0, PySem.W.mg_of X G a0, b0, f1, _, F1, PySem.W.mg_of X G a1, b1, f2, _, F2, PySem.W.mg_of X G a2, b2, f3, _, F3, PySem.W.mg_of X G a3, b3, f4, _, F4, PySem.W.mg_of X G a4, b4, f5, _, F5, PySem.W.mg_of X G a5, b5, f6, _, F6, PySem.W.mg_of X G a6, b6, f7, _, F7, PySem.W.mg_of X G a7, b7, f8, _, F8, PySem.W.mg_of X G a8, b8, f9, _, F9, PySem.W.mg_of X G a9, b9, f10, _, F10, PySem.W.mg_of X G a10, b10, f11, _, F11, PySem.W.mg_of X G a11, b11, f12, _, F12, PySem.W.mg_of X G a12, b12, f13, _, F13, PySem.W.mg_of X G a13, b13, f14, _, F14, PySem.W.mg_of X G a14, b14, fa, _, F15, PySem.W.mg_of X G a15, b15, PySem.W.mg_none_of X G z0, PySem.W.mg_none_of X G z1, PySem.W.mg_none_of X G z2, PySem.W.mg_none_of X G z3, PySem.W.mg_none_of X G z4, PySem.W.mg_none_of X G z5, PySem.W.mg_none_of X G z6, PySem.W.mg_none_of X G z7, _, PySem.W.mg_of X G x0⟩
  exact ⟨_, fun s v => .of_eq rfl, fun base _ _ => ok_law ⟨f0, _, F0, PySem.W.mg_of X G a0, b0, f1, _, F1, PySem.W.mg_of X G a1, b1, f2, _, F2, PySem.W.mg_of X G a2, b2, f3, _, F3, PySem.W.mg_of X G a3, b3, f4, _, F4, PySem.W.mg_of X G a4, b4, f5, _, F5, PySem.W.mg_of X G a5, b5, f6, _, F6, PySem.W.mg_of X G a6, b6, f7, _, F7, PySem.W.mg_of X G a7, b7, f8, _, F8, PySem.W.mg_of X G a8, b8, f9, _, F9, PySem.W.mg_of X G a9, b9, f10, _, F10, PySem.W.mg_of X G a10, b10, f11, _, F11, PySem.W.mg_of X G a11, b11, f12, _, F12, PySem.W.mg_of X G a12, b12, f13, _, F13, PySem.W.mg_of X G a13, b13, f14, _, F14, PySem.W.mg_of X G a14, b14, fa, _, F15, PySem.W.mg_of X G a15, b15, PySem.W.mg_none_of X G z0, PySem.W.mg_none_of X G z1, PySem.W.mg_none_of X G z2, PySem.W.mg_none_of X G z3, PySem.W.mg_none_of X G z4, PySem.W.mg_none_of X G z5, PySem.W.mg_none_of X G z6, PySem.W.mg_none_of X G z7, _, PySem.W.mg_of X G x0⟩⟩
end Rn
open PySem PySem.W PyProof.Rows
set_option maxRecDepth 100000 in
set_option maxHeartbeats 0 in
theorem PySem.Challenge.cw_retrynest_k06_whole_constant_layers_holds : PySem.Challenge.rw_retrynest_k06_whole_constant_layers.Holds := by
  w_on; o_law; k_head; (case hw => w_witness2)
  k_fill
  refine L2.walk_ofK (l := PySem.Challenge.rw_retrynest_k06_whole_constant_layers) (n := 63) (k := Rn.lvl_law) (x := "script") (CX := L2.CX0) (sp := Rn.sp_law) rfl (by decide) rfl ⟨rfl, by decide, by decide⟩ (fun w h Y => PySem.W.kIn_of Y) ?F (fun _ _ a ns hl _ hS => ⟨a, ns, rfl, hS, hl, fun _ => rfl⟩) (fun _ _ _ _ h => h)
  case F =>
    intro w mg fa h KX G hmg
    refine' Rn.all_mk KX G hmg ?a0 ?l0 ?c0 ?k0 ?a1 ?l1 ?c1 ?k1 ?a2 ?l2 ?c2 ?k2 ?a3 ?l3 ?c3 ?k3 ?a4 ?l4 ?c4 ?k4 ?a5 ?l5 ?c5 ?k5 ?a6 ?l6 ?c6 ?k6 ?a7 ?l7 ?c7 ?k7 ?a8 ?l8 ?c8 ?k8 ?a9 ?l9 ?c9 ?k9 ?a10 ?l10 ?c10 ?k10 ?a11 ?l11 ?c11 ?k11 ?a12 ?l12 ?c12 ?k12 ?a13 ?l13 ?c13 ?k13 ?a14 ?l14 ?c14 ?k14 ?a15 ?l15 ?c15 ?k15 ?z0 ?z1 ?z2 ?z3 ?z4 ?z5 ?z6 ?z7 ?x0
    (case a0 => k_is); (case l0 => k_is); (case c0 => k_is); (case k0 => k_is); (case a1 => k_is); (case l1 => k_is); (case c1 => k_is); (case k1 => k_is); (case a2 => k_is)
    (case l2 => k_is); (case c2 => k_is); (case k2 => k_is); (case a3 => k_is); (case l3 => k_is); (case c3 => k_is); (case k3 => k_is); (case a4 => k_is); (case l4 => k_is)
    (case c4 => k_is); (case k4 => k_is); (case a5 => k_is); (case l5 => k_is); (case c5 => k_is); (case k5 => k_is); (case a6 => k_is); (case l6 => k_is); (case c6 => k_is)
    (case k6 => k_is); (case a7 => k_is); (case l7 => k_is); (case c7 => k_is); (case k7 => k_is); (case a8 => k_is); (case l8 => k_is); (case c8 => k_is); (case k8 => k_is)
    (case a9 => k_is); (case l9 => k_is); (case c9 => k_is); (case k9 => k_is); (case a10 => k_is); (case l10 => k_is); (case c10 => k_is); (case k10 => k_is); (case a11 => k_is)
    (case l11 => k_is); (case c11 => k_is); (case k11 => k_is); (case a12 => k_is); (case l12 => k_is); (case c12 => k_is); (case k12 => k_is); (case a13 => k_is)
    (case l13 => k_is); (case c13 => k_is); (case k13 => k_is); (case a14 => k_is); (case l14 => k_is); (case c14 => k_is); (case k14 => k_is); (case a15 => k_is)
    (case l15 => k_is); (case c15 => k_is); (case k15 => k_is); (case z0 => k_is); (case z1 => k_is); (case z2 => k_is); (case z3 => k_is); (case z4 => k_is); (case z5 => k_is)
    (case z6 => k_is); (case z7 => k_is); (case x0 => k_is)
