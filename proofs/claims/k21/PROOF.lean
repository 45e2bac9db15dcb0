import PyProof.Rows.All
import Wide.All
import OpenK.AllK
import Wide.FinOn
import HandS.ForMost
import HandS.Wide
import HandS.IsInst
import HandS.NoneIn
import HandS.Evl
import HandS.WideBits
import HandS.Zip
import HandS.Walk
import PySem.Challenge.RW_retrynest_k21_first_attempts_of_long_nes
set_option Elab.async false
set_option linter.all false
set_option maxRecDepth 100000
set_option maxHeartbeats 4000000
namespace Rn
open PySem PySem.Spec PyProof.Rows L2

/-! ## heaps -/
theorem same_new {H : Hp} {p : Addr} {o : HO} (h : H p = none) : Same H (upd H p o) := fun b x e => by
  rw [upd_ne (ne_of_none e h)]
  exact e
theorem same_keep {H H' : Hp} {p : Addr} {o : HO} (e : Same H H') (h : H p = none) : Same H (upd H' p o) := fun b x q => by
  rw [upd_ne (ne_of_none q h)]
  exact e b x q
theorem sql {K : PySem.W.Frag} {H : Hp} {p : Addr} {xs : List V} (h : H p = some (.lst xs)) : SqL K H p xs := .inl (.inl h)
theorem sqt {K : PySem.W.Frag} {H : Hp} {p : Addr} {xs : List V} (h : H p = some (.tup xs)) : SqT K H p xs := .inl (.inl h)
/-- the source's two objects hidden -/
def hid (a d : Addr) (H : Hp) : Hp := fun b => if b = a ∨ b = d then none else H b
theorem hid_get {a d : Addr} {H : Hp} {b : Addr} {o : HO} (h : hid a d H b = some o) : H b = some o ∧ b ≠ a ∧ b ≠ d := by
  unfold hid at h
  by_cases e : b = a ∨ b = d
  · rw [if_pos e] at h
    cases h
  · rw [if_neg e] at h
    exact ⟨h, fun z => e (.inl z), fun z => e (.inr z)⟩
theorem hid_at {a d : Addr} {H : Hp} {b : Addr} {o : HO} (h : H b = some o) (ha : b ≠ a) (hd : b ≠ d) : hid a d H b = some o := by
  unfold hid
  rw [if_neg (fun z => z.elim ha hd)]
  exact h
theorem hid_none {a d : Addr} {H : Hp} {b : Addr} (h : H b = none) : hid a d H b = none := by
  unfold hid
  split
  · rfl
  · exact h
theorem hid_same {a d : Addr} {H H' : Hp} (e : Same H H') : Same (hid a d H) (hid a d H') := fun b o h => by
  obtain ⟨h1, h2, h3⟩ := hid_get h
  exact hid_at (e _ _ h1) h2 h3
theorem hid_src1 {a d : Addr} {H : Hp} {o : HO} : hid a d (upd H a o) = hid a d H := by
  funext b
  unfold hid
  by_cases e : b = a ∨ b = d
  · rw [if_pos e, if_pos e]
  · rw [if_neg e, if_neg e, upd_ne fun z => e (.inl z)]
theorem hid_src2 {a d : Addr} {H : Hp} {o : HO} : hid a d (upd H d o) = hid a d H := by
  funext b
  unfold hid
  by_cases e : b = a ∨ b = d
  · rw [if_pos e, if_pos e]
  · rw [if_neg e, if_neg e, upd_ne fun z => e (.inr z)]
theorem hid_oth {a d : Addr} {H : Hp} {p : Addr} {o : HO} (ha : p ≠ a) (hd : p ≠ d) : hid a d (upd H p o) = upd (hid a d H) p o := by
  funext b
  by_cases e : b = p
  · rw [e, upd_same]
    exact hid_at upd_same ha hd
  · rw [upd_ne e]
    unfold hid
    rw [upd_ne e]

/-! ## the source of draws: a list at a, its digits at d; at most n draws were mixed -/
def Src (H : Hp) (a d : Addr) (n : Int) : Prop := ∃ (cur mix cnt : Int) (ds : List Int), H a = some (.lst [.ref d, .int cur, .int mix, .int cnt]) ∧ H d = some (.lst (ds.map V.int)) ∧
  0 ≤ mix ∧ mix < 2305843009213693951 ∧ 0 ≤ cnt ∧ cnt ≤ n
theorem Src.ne {H : Hp} {a d : Addr} {n : Int} (s : Src H a d n) : a ≠ d := by
  obtain ⟨cur, mix, cnt, ds, h1, h2, _⟩ := s
  intro e
  rw [e] at h1
  rw [h1] at h2
  cases ds with
  | nil => cases h2
  | cons x r =>
    have z := Option.some.inj h2
    injection z with z
    rw [List.map_cons] at z
    injection z with z1 z2
    cases z1
theorem Src.lst1 {H : Hp} {a d : Addr} {n : Int} (s : Src H a d n) : ∃ o, H a = some o := let ⟨_, _, _, _, h, _⟩ := s; ⟨_, h⟩
theorem Src.lst2 {H : Hp} {a d : Addr} {n : Int} (s : Src H a d n) : ∃ o, H d = some o := let ⟨_, _, _, _, _, h, _⟩ := s; ⟨_, h⟩
theorem Src.same {H H' : Hp} {a d : Addr} {n : Int} (s : Src H a d n) (e : Same H H') : Src H' a d n := by
  obtain ⟨cur, mix, cnt, ds, h1, h2, h3⟩ := s
  exact ⟨cur, mix, cnt, ds, e _ _ h1, e _ _ h2, h3⟩
theorem Src.keep {H : Hp} {a d p : Addr} {o : HO} {n : Int} (s : Src H a d n) (ha : p ≠ a) (hd : p ≠ d) : Src (upd H p o) a d n := by
  obtain ⟨cur, mix, cnt, ds, h1, h2, h3⟩ := s
  exact ⟨cur, mix, cnt, ds, by rw [upd_ne ha.symm]; exact h1, by rw [upd_ne hd.symm]; exact h2, h3⟩
theorem Src.mono {H : Hp} {a d : Addr} {n m : Int} (s : Src H a d n) (h : n ≤ m) : Src H a d m := by
  obtain ⟨cur, mix, cnt, ds, h1, h2, h3, h4, h5, h6⟩ := s
  exact ⟨cur, mix, cnt, ds, h1, h2, h3, h4, h5, Int.le_trans h6 h⟩
theorem Src.new1 {H : Hp} {a d p : Addr} {n : Int} (s : Src H a d n) (h : H p = none) : p ≠ a ∧ p ≠ d := by
  obtain ⟨o, h1⟩ := s.lst1
  obtain ⟨u, h2⟩ := s.lst2
  exact ⟨(ne_of_none h1 h).symm, (ne_of_none h2 h).symm⟩

/-- what a call that draws at most c times does to the heap: all but the source stays, the source is a source -/
structure Adv (a d : Addr) (c : Int) (H H' : Hp) : Prop where
  same : Same (hid a d H) (hid a d H')
  src : ∀ n, Src H a d n → Src H' a d (n + c)
theorem Adv.refl {a d : Addr} {H : Hp} : Adv a d 0 H H := ⟨Same.refl _, fun n s => s.mono (by omega)⟩
theorem Adv.trans {a d : Addr} {c c' e : Int} {H H1 H2 : Hp} (x : Adv a d c H H1) (y : Adv a d c' H1 H2) (h : c + c' ≤ e) : Adv a d e H H2 :=
  ⟨x.same.trans y.same, fun n s => (y.src _ (x.src _ s)).mono (by omega)⟩
theorem Adv.mono {a d : Addr} {c e : Int} {H H1 : Hp} (x : Adv a d c H H1) (h : c ≤ e) : Adv a d e H H1 := ⟨x.same, fun n s => (x.src _ s).mono (by omega)⟩
theorem Adv.of {a d : Addr} {H H' : Hp} (e : Same H H') : Adv a d 0 H H' := ⟨hid_same e, fun n s => (s.same e).mono (by omega)⟩
/-- .. where a new object of the way has changed -/
theorem Adv.mut {a d : Addr} {c : Int} {H H' : Hp} {p : Addr} {o : HO} {n : Int} (x : Adv a d c H H') (s : Src H a d n) (h : H p = none) : Adv a d c H (upd H' p o) := by
  obtain ⟨h1, h2⟩ := s.new1 h
  refine ⟨?_, fun m t => (x.src m t).keep h1 h2⟩
  rw [hid_oth h1 h2]
  exact same_keep x.same (hid_none h)
/-- free behind is free ahead -/
theorem Adv.free {a d p : Addr} {c n : Int} {H H' : Hp} (x : Adv a d c H H') (s : Src H a d n) (h : H' p = none) : H p = none := by
  have s' := x.src n s
  obtain ⟨h1, h2⟩ := s'.new1 h
  cases q : H p with
  | none => rfl
  | some o =>
    have e := (hid_get (x.same p o (hid_at q h1 h2))).1
    rw [h] at e
    cases e
theorem Adv.made {a d : Addr} {c cur mix cnt cur' cnt' : Int} {H H' : Hp} {ds' : List Int} (e : Same (hid a d H) (hid a d H')) (h : H a = some (.lst [.ref d, .int cur, .int mix, .int cnt]))
    (h' : H' a = some (.lst [.ref d, .int cur', .int mix, .int cnt'])) (hd' : H' d = some (.lst (ds'.map V.int))) (h0 : cnt ≤ cnt') (h1 : cnt' ≤ cnt + c) : Adv a d c H H' := by
  refine ⟨e, fun n s => ?_⟩
  obtain ⟨cu, mi, cn, ds, a1, a2, a3, a4, a5, a6⟩ := s
  rw [h] at a1
  cases a1
  exact ⟨cur', mix, cnt', ds', h', hd', a3, a4, by omega, by omega⟩
theorem small64 {x b : Int} (h0 : 0 ≤ x) (h1 : x < b) (hb : b ≤ 18446744073709551616) : x.natAbs < 2 ^ 64 := by omega

/-! ## ints in lists -/
theorem map_get {ns : List Int} {i : Nat} {x : Int} (h : ns[i]? = some x) : (ns.map V.int)[i]? = some (.int x) := by
  rw [List.getElem?_map, h]
  rfl
theorem at_int {ns : List Int} {i : Int} (h0 : 0 ≤ i) (h : i < ns.length) : ∃ x, x ∈ ns ∧ ns[i.toNat]? = some x ∧ atI (ns.map V.int) i = some (.int x) := by
  obtain ⟨j, rfl⟩ : ∃ j : Nat, i = (j : Int) := ⟨i.toNat, by omega⟩
  have hi : j < ns.length := by omega
  exact ⟨ns[j], List.getElem_mem hi, List.getElem?_eq_getElem hi, atI_nat (map_get (List.getElem?_eq_getElem hi))⟩
theorem at_val {xs : List V} {i : Int} (h0 : 0 ≤ i) (h : i < xs.length) : ∃ x, x ∈ xs ∧ xs[i.toNat]? = some x ∧ atI xs i = some x := by
  obtain ⟨j, rfl⟩ : ∃ j : Nat, i = (j : Int) := ⟨i.toNat, by omega⟩
  have hi : j < xs.length := by omega
  exact ⟨xs[j], List.getElem_mem hi, List.getElem?_eq_getElem hi, atI_nat (List.getElem?_eq_getElem hi)⟩
theorem size_le {n : Nat} (h : n ≤ 100000) : n ≤ sizeLine := Nat.le_trans h (by decide)
theorem size_lt {n : Nat} (h : n < 100000) : n < sizeLine := Nat.lt_of_lt_of_le h (by decide)
mutual
theorem eqv_refl' : ∀ d : PyData, d.canLay0 = true → PyData.eqv d d = true
  | .none, _ => rfl
  | .bool b, _ => by simp [PyData.eqv]
  | .int i, _ => by simp [PyData.eqv]
  | .str x, _ => by simp [PyData.eqv]
  | .list xs, h => by
    simp only [PyData.eqv]
    exact eqvAll_refl' xs (by simpa [PyData.canLay0] using h)
  | .tuple xs, h => by
    simp only [PyData.eqv]
    exact eqvAll_refl' xs (by simpa [PyData.canLay0] using h)
  | .dict _, h => by simp [PyData.canLay0] at h
theorem eqvAll_refl' : ∀ ds : List PyData, PyData.canLayAll0 ds = true → PyData.eqvAll ds ds = true
  | [], _ => by simp [PyData.eqvAll]
  | d :: ds, h => by
    have h' : d.canLay0 = true ∧ PyData.canLayAll0 ds = true := by simpa [PyData.canLayAll0] using h
    simp only [PyData.eqvAll, Bool.and_eq_true]
    exact ⟨eqv_refl' d h'.1, eqvAll_refl' ds h'.2⟩
end
/-- a list of ints as data -/
def dInts (ns : List Int) : PyData := .list (ns.map .int)
theorem eqvAll_ints : ∀ ns ms : List Int, PyData.eqvAll (ns.map .int) (ms.map .int) = decide (ns = ms)
  | [], [] => by simp [PyData.eqvAll]
  | [], _ :: _ => by simp [PyData.eqvAll]
  | _ :: _, [] => by simp [PyData.eqvAll]
  | n :: ns, m :: ms => by
    have ih := eqvAll_ints ns ms
    simp only [List.map_cons, PyData.eqvAll, PyData.eqv, ih]
    by_cases h1 : n = m <;> by_cases h2 : ns = ms <;> simp [h1, h2]
theorem eqv_ints (ns ms : List Int) : PyData.eqv (dInts ns) (dInts ms) = decide (ns = ms) := by
  unfold dInts
  simp only [PyData.eqv]
  exact eqvAll_ints ns ms
theorem canLay_ints : ∀ ns : List Int, PyData.canLayAll0 (ns.map .int) = true
  | [] => by simp [PyData.canLayAll0]
  | n :: ns => by simp [PyData.canLayAll0, PyData.canLay0, canLay_ints ns]
theorem depth_ints : ∀ ns : List Int, PyData.depthAll (ns.map .int) ≤ 1
  | [] => by simp [PyData.depthAll]
  | n :: ns => by
    have := depth_ints ns
    simp only [List.map_cons, PyData.depthAll, PyData.depth]
    omega
theorem shaped_ints (ns : List Int) : SeqAt.shaped (dInts ns) = true := by
  have h := depth_ints ns
  unfold SeqAt.shaped
  rw [Bool.and_eq_true]
  refine ⟨?_, decide_eq_true ?_⟩
  · unfold dInts
    simp only [PyData.canLay0, canLay_ints]
  · unfold dInts
    simp only [PyData.depth]
    omega
theorem dp_all {K : PySem.W.Frag} {H : Hp} : ∀ ns : List Int, DpAll K H (ns.map V.int) (ns.map .int)
  | [] => .nil
  | n :: ns => .cons (.int n) (dp_all ns)
theorem dp_ints {K : PySem.W.Frag} {H : Hp} {p : Addr} {ns : List Int} (h : SqL K H p (ns.map V.int)) : Dp K H (.ref p) (dInts ns) := .lst h (dp_all ns)
theorem dp_nil {K : PySem.W.Frag} {H : Hp} {p : Addr} (h : SqL K H p []) : Dp K H (.ref p) (dInts []) := .lst h .nil

/-! ## loops -/
/-- for i, x in enumerate(xs), xs left as it is -/
theorem for_enum {K : PySem.W.Frag} {a : Addr} {xs : List V} {g : TG} {tb : TS} {D : Ends} {σ : L2.St} {H : Hp} (Pv : Nat → L2.St → Hp → Prop) (h0 : Pv 0 σ H)
    (hl : ∀ i σ H, i ≤ xs.length → Pv i σ H → SqL K H a xs)
    (hs : ∀ i x σ H T, xs[i]? = some x → Pv i σ H → H T = none → g (.ref T) σ (upd H T (.tup [.int (i : Nat), x])) fun σ2 H2 => tb { D with nx := Pv (i + 1), ct := Pv (i + 1), bk := D.nx } σ2 H2)
    (hd : ∀ σ H, Pv xs.length σ H → D.nx σ H) :
    ∃ W : Nat → Nat → L2.St → Hp → Prop, (∃ m, W 0 m σ H) ∧ ∀ i m σ H, W i m σ H →
      ((Ite K a).stop i H ∧ D.nx σ H) ∨ ((Ite K a).go i H ∧ ∃ N : L2.St → Hp → Prop, (∀ σ' H', N σ' H' → ∃ m', m' < m ∧ W (i + 1) m' σ' H') ∧
        ∀ x H', (Ite K a).yld i H x H' → g x σ H' fun σ2 H2 => tb { D with nx := N, ct := N, bk := D.nx } σ2 H2) := by
  refine ⟨fun i m σ' H' => m + i = xs.length ∧ Pv i σ' H', ⟨xs.length, rfl, h0⟩, fun i m σ' H' hW => ?_⟩
  obtain ⟨em, hp⟩ := hW
  have hq := hl i σ' H' (by omega) hp
  by_cases hi : i < xs.length
  · refine .inr ⟨⟨xs, xs[i], hq, List.getElem?_eq_getElem hi⟩, Pv (i + 1), fun σ2 H2 h2 => ⟨m - 1, by omega, by omega, h2⟩, fun x H2 hy => ?_⟩
    obtain ⟨T, y, rfl, nT, rfl, hx⟩ := hy
    exact hs i y σ' H' T (hx xs hq) hp nT
  · have e : i = xs.length := by omega
    subst e
    exact .inl ⟨⟨xs, hq, Nat.le_refl _⟩, hd σ' H' hp⟩

/-! ## kinds -/
section
variable {K : PySem.W.Frag} {H : Hp} {p : Addr} {xs : List V} {Q : VK}
theorem isi_tt (h : H p = some (.tup xs)) (q : Q (.bl true) H) : rIsi K [.ref p, .ty "tuple"] H Q := ⟨_, _, _, _, _, rfl, .ty "tuple", .base (.tup h), kit_ty (by decide +kernel), q⟩
theorem isi_lt (h : H p = some (.lst xs)) (q : Q (.bl false) H) : rIsi K [.ref p, .ty "tuple"] H Q := ⟨_, _, _, _, _, rfl, .ty "tuple", .base (.lst h), kit_ty (by decide +kernel), q⟩
theorem isi_ll (h : H p = some (.lst xs)) (q : Q (.bl true) H) : rIsi K [.ref p, .ty "list"] H Q := ⟨_, _, _, _, _, rfl, .ty "list", .base (.lst h), kit_ty (by decide +kernel), q⟩
theorem isi_tl (h : H p = some (.tup xs)) (q : Q (.bl false) H) : rIsi K [.ref p, .ty "list"] H Q := ⟨_, _, _, _, _, rfl, .ty "list", .base (.tup h), kit_ty (by decide +kernel), q⟩
end

/-! ## policies and layers -/
/-- the inner one, then each wait of the outer one and the inner one again -/
def nestL {α : Type} (xs ys : List α) : List α := xs ++ ys.flatMap fun y => y :: xs
theorem nestL_map {α β : Type} (f : α → β) (xs ys : List α) : (nestL xs ys).map f = nestL (xs.map f) (ys.map f) := by
  unfold nestL
  rw [List.map_append, List.map_flatMap, List.flatMap_map]
  congr 1
theorem flatMap_len {α β : Type} (f : α → List β) (n : Nat) (h : ∀ x, (f x).length = n) : ∀ l : List α, (l.flatMap f).length = l.length * n
  | [] => by simp
  | x :: l => by
    rw [List.flatMap_cons, List.length_append, h x, flatMap_len f n h l, List.length_cons, Nat.succ_mul, Nat.add_comm]
theorem nestL_len {α : Type} (xs ys : List α) : (nestL xs ys).length + 1 = (xs.length + 1) * (ys.length + 1) := by
  unfold nestL
  rw [List.length_append, flatMap_len _ (xs.length + 1) (fun _ => rfl)]
  generalize xs.length = a
  generalize ys.length = b
  have e1 : (a + 1) * (b + 1) = a * b + a + (b + 1) := by rw [Nat.add_mul, Nat.mul_add, Nat.mul_one, Nat.one_mul]
  have e2 : b * (a + 1) = a * b + b := by rw [Nat.mul_add, Nat.mul_one, Nat.mul_comm]
  omega
theorem nestL_nil {α : Type} (xs : List α) : nestL xs [] = xs := by
  unfold nestL
  simp
theorem nil_nestL {α : Type} (ys : List α) : nestL [] ys = ys := by
  unfold nestL
  simp
theorem nestL_mem {α : Type} {xs ys : List α} {z : α} (h : z ∈ nestL xs ys) : z ∈ xs ∨ z ∈ ys := by
  unfold nestL at h
  rw [List.mem_append, List.mem_flatMap] at h
  rcases h with h | ⟨y, hy, h⟩
  · exact .inl h
  · rcases List.mem_cons.mp h with e | h
    · exact .inr (e ▸ hy)
    · exact .inl h
inductive Lay where
  | pol (ns : List Int)
  | con (w n : Int)
def Lay.cnt : Lay → Int
  | .pol ns => (ns.length : Int) + 1
  | .con _ n => n
def Lay.waits : Lay → List Int
  | .pol ns => ns
  | .con w n => List.replicate (n - 1).toNat w
def Lay.ok : Lay → Bool
  | .pol ns => ns.all fun x => decide (0 ≤ x)
  | .con w n => decide (0 ≤ w) && decide (1 ≤ n)
theorem Lay.ok_con (w n : Int) : (Lay.con w n).ok = (decide (0 ≤ w) && decide (1 ≤ n)) := rfl
theorem Lay.ok_pol (ns : List Int) : (Lay.pol ns).ok = ns.all fun x => decide (0 ≤ x) := rfl
def LayAt (H : Hp) (v : V) : Lay → Prop
  | .pol ns => ∃ p, v = .ref p ∧ H p = some (.lst (ns.map V.int))
  | .con w n => ∃ p, v = .ref p ∧ H p = some (.tup [.int w, .int n])
theorem LayAt.same {H H' : Hp} {v : V} {L : Lay} (h : LayAt H v L) (e : Same H H') : LayAt H' v L := by
  cases L with
  | pol ns => obtain ⟨p, h1, h2⟩ := h; exact ⟨p, h1, e _ _ h2⟩
  | con w n => obtain ⟨p, h1, h2⟩ := h; exact ⟨p, h1, e _ _ h2⟩
theorem LayAt.ref {H : Hp} {v : V} {L : Lay} (h : LayAt H v L) : ∃ p, v = .ref p := by
  cases L with
  | pol ns => obtain ⟨p, h1, _⟩ := h; exact ⟨p, h1⟩
  | con w n => obtain ⟨p, h1, _⟩ := h; exact ⟨p, h1⟩
def NestAt (H : Hp) (q : Addr) (Ls : List Lay) : Prop := ∃ vs, H q = some (.lst vs) ∧ vs.length = Ls.length ∧ ∀ (i : Nat) v L, vs[i]? = some v → Ls[i]? = some L → LayAt H v L
theorem NestAt.same {H H' : Hp} {q : Addr} {Ls : List Lay} (h : NestAt H q Ls) (e : Same H H') : NestAt H' q Ls := by
  obtain ⟨vs, h1, h2, h3⟩ := h
  exact ⟨vs, e _ _ h1, h2, fun i v L a b => (h3 i v L a b).same e⟩
theorem LayAt.con_pos {L : Lay} (h : L.ok = true) : 1 ≤ L.cnt := by
  cases L with
  | pol ns => show (1 : Int) ≤ (ns.length : Int) + 1; omega
  | con w n =>
    unfold Lay.ok at h
    rw [Bool.and_eq_true] at h
    exact of_decide_eq_true h.2
def attOf (Ls : List Lay) : Int := Ls.foldl (fun t L => t * L.cnt) 1
def flatL (Ls : List Lay) : List Int := Ls.foldl (fun acc L => if L.cnt > 1 then nestL acc L.waits else acc) []
theorem nest_of {H : Hp} {q : Addr} {vs : List V} {Ls : List Lay} (h : H q = some (.lst vs)) (p : Paired (LayAt H) vs Ls) : NestAt H q Ls := by
  refine ⟨vs, h, Paired.length p, ?_⟩
  clear h
  induction p with
  | nil =>
    intro i v L h
    cases h
  | cons r t ih =>
    intro i v L h1 h2
    cases i with
    | zero =>
      cases h1
      cases h2
      exact r
    | succ i => exact ih i v L h1 h2
theorem flatL_eq : ∀ (Ls : List Lay) (acc : List Int), (∀ L ∈ Ls, L.ok = true) → Ls.foldl (fun acc L => if L.cnt > 1 then nestL acc L.waits else acc) acc = Ls.foldl (fun acc L => nestL acc L.waits) acc
  | [], _, _ => rfl
  | L :: Ls, acc, h => by
    have h1 := LayAt.con_pos (h L List.mem_cons_self)
    have e : (if L.cnt > 1 then nestL acc L.waits else acc) = nestL acc L.waits := by
      split
      · rfl
      · have hw : L.waits = [] := by
          cases L with
          | pol ns =>
            have : (ns.length : Int) + 1 = (Lay.pol ns).cnt := rfl
            exact List.length_eq_zero_iff.mp (by show ns.length = 0; omega)
          | con w n =>
            have : n = (Lay.con w n).cnt := rfl
            show List.replicate (n - 1).toNat w = []
            rw [show (n - 1).toNat = 0 by omega]
            rfl
        rw [hw, nestL_nil]
    rw [List.foldl_cons, List.foldl_cons, e]
    exact flatL_eq Ls _ fun M hM => h M (List.mem_cons_of_mem _ hM)
theorem flatL_fold {Ls : List Lay} (h : ∀ L ∈ Ls, L.ok = true) : flatL Ls = Ls.foldl (fun acc L => nestL acc L.waits) [] := flatL_eq Ls [] h
theorem nestL_assoc {α : Type} (xs ys zs : List α) : nestL (nestL xs ys) zs = nestL xs (nestL ys zs) := by
  unfold nestL
  rw [List.flatMap_append, List.append_assoc]
  congr 1
  congr 1
  induction zs with
  | nil => rfl
  | cons z zs ih =>
    simp only [List.flatMap_cons, List.flatMap_append, List.cons_append, List.append_assoc] at ih ⊢
    rw [ih]
theorem pol_ok {ns : List Int} (h : ∀ x ∈ ns, 0 ≤ x ∧ x < 1000000000000) : (Lay.pol ns).ok = true := by
  rw [Lay.ok_pol, List.all_eq_true]
  exact fun x hx => decide_eq_true (h x hx).1
theorem ne_no {ns ms : List Int} {A B : Prop} (h : ns = ms) (b : B) : if (!PyData.eqv (dInts ns) (dInts ms)) = true then A else B := by
  rw [eqv_ints, decide_eq_true h]
  exact iteF b

/-! ## rules of the written part in a comprehension's block -/
section
variable {X : Cx} {K : PySem.W.Frag}
theorem ix_listK (h : X.K = K) : IxR X (rIxL K) := by subst h; exact ix_list
theorem ix_tupK (h : X.K = K) : IxR X (rIxT K) := by subst h; exact ix_tup
theorem sl_listK (h : X.K = K) : SlR X (rSlL K) := by subst h; exact sl_list
theorem op_eqDK (h : X.K = K) (hu : X.A.units + 64 < cLine) : OpR X (compareOp .Eq) (rEqD K) := by subst h; exact op_eqD hu
theorem op_neDK (h : X.K = K) (hu : X.A.units + 64 < cLine) : OpR X (compareOp .NotEq) (rNeD K) := by subst h; exact op_neD hu
theorem op_in_seqK (h : X.K = K) : OpR X (compareOp .In) (rIn K false) := by subst h; exact op_in_seq
theorem op_notIn_seqK (h : X.K = K) : OpR X (compareOp .NotIn) (rIn K true) := by subst h; exact op_notIn_seq
theorem call_isiK1 (h : X.K = K) : CallR X (.builtin "isinstance") (rIsi K) := by subst h; exact call_isi
def rLenK (K : PySem.W.Frag) : List V → Hp → VK → Prop := fun xs H Q => ∃ p ys, xs = [.ref p] ∧ (SqL K H p ys ∨ SqT K H p ys) ∧ Q (.int (ys.length : Int)) H
theorem call_len_seqK (h : X.K = K) : CallR X (.builtin "len") (rLenK K) := by subst h; exact call_len_seq
def rListK (K : PySem.W.Frag) : List V → Hp → VK → Prop := fun xs H Q => ∃ p ys, xs = [.ref p] ∧ (SqL K H p ys ∨ SqT K H p ys) ∧ ∀ l, H l = none → Q (.ref l) (upd H l (.lst ys))
theorem call_list_ofK (h : X.K = K) : CallR X (.type "list") (rListK K) := by subst h; exact call_list_of
end
theorem refs_ints {ps : List Addr} {ws : List Int} (h : ps.map V.ref = ws.map V.int) : ps = [] := by
  cases ps with
  | nil => rfl
  | cons p ps =>
    cases ws with
    | nil => cases h
    | cons w ws =>
      injection h with h1 h2
      cases h1
theorem three {α : Type} {l : List α} (h : l.length = 3) : ∃ x y z, l = [x, y, z] := by
  match l, h with
  | [x, y, z], _ => exact ⟨x, y, z, rfl⟩
theorem ixN_at {n : Nat} {i : Int} (h0 : 0 ≤ i) (h1 : i < n) : ixN n i = some i.toNat := by
  unfold ixN
  rw [if_pos h0, if_pos h1]
theorem eq_yes {ns ms : List Int} (h : ns = ms) : PyData.eqv (dInts ns) (dInts ms) = true := by rw [eqv_ints, decide_eq_true h]
theorem nestL_cons {α : Type} (ns : List α) (m : α) (ms : List α) : nestL ns (m :: ms) = ns ++ m :: nestL ns ms := by
  unfold nestL
  rw [List.flatMap_cons, List.cons_append]
theorem nestL_get {α : Type} (ns : List α) : ∀ (ms : List α) (j : Nat), j < (nestL ns ms).length → (nestL ns ms)[j]? = if (j + 1) % (ns.length + 1) = 0 then ms[(j + 1) / (ns.length + 1) - 1]? else ns[(j + 1) % (ns.length + 1) - 1]?
  | [], j, h => by
    rw [nestL_nil] at h ⊢
    rw [Nat.mod_eq_of_lt (by omega), if_neg (by omega)]
    rfl
  | m :: ms, j, h => by
    rw [nestL_cons] at h ⊢
    by_cases h1 : j < ns.length
    · rw [List.getElem?_append_left h1, Nat.mod_eq_of_lt (by omega), if_neg (by omega)]
      rfl
    · by_cases h2 : j = ns.length
      · subst h2
        rw [List.getElem?_append_right (Nat.le_refl _), Nat.sub_self, Nat.mod_self, if_pos rfl, Nat.div_self (by omega)]
        rfl
      · obtain ⟨t, rfl⟩ : ∃ t, j = ns.length + 1 + t := ⟨j - (ns.length + 1), by omega⟩
        rw [List.getElem?_append_right (by omega), show ns.length + 1 + t - ns.length = t + 1 by omega, List.getElem?_cons_succ]
        rw [List.length_append, List.length_cons] at h
        rw [nestL_get ns ms t (by omega), show ns.length + 1 + t + 1 = (t + 1) + (ns.length + 1) by omega, Nat.add_mod_right, Nat.add_div_right _ (by omega)]
        by_cases h3 : (t + 1) % (ns.length + 1) = 0
        · rw [if_pos h3, if_pos h3, Nat.succ_sub_one]
          have : 1 ≤ (t + 1) / (ns.length + 1) := by
            have := Nat.div_add_mod (t + 1) (ns.length + 1)
            rw [h3] at this
            rcases Nat.eq_zero_or_pos ((t + 1) / (ns.length + 1)) with z | z
            · rw [z] at this
              omega
            · exact z
          obtain ⟨u, hu⟩ : ∃ u, (t + 1) / (ns.length + 1) = u + 1 := ⟨(t + 1) / (ns.length + 1) - 1, by omega⟩
          rw [hu]
          rfl
        · rw [if_neg h3, if_neg h3]
theorem foldl_nestL : ∀ (Ls : List Lay) (xs acc : List Int), Ls.foldl (fun acc L => nestL acc L.waits) (nestL xs acc) = nestL xs (Ls.foldl (fun acc L => nestL acc L.waits) acc)
  | [], _, _ => rfl
  | L :: Ls, xs, acc => by
    rw [List.foldl_cons, List.foldl_cons, nestL_assoc]
    exact foldl_nestL Ls xs (nestL acc L.waits)
theorem flatL_cons {L : Lay} {Ls : List Lay} (h : ∀ M ∈ L :: Ls, M.ok = true) : flatL (L :: Ls) = nestL L.waits (flatL Ls) := by
  rw [flatL_fold h, flatL_fold fun M hM => h M (List.mem_cons_of_mem _ hM), List.foldl_cons, nil_nestL]
  have := foldl_nestL Ls L.waits []
  rw [nestL_nil] at this
  exact this
/-- a nesting whose layers' objects are newer than H0 and none of them is the nesting's own list -/
def NestV (H0 G : Hp) (p : Addr) (vs : List V) (Ls : List Lay) : Prop := G p = some (.lst vs) ∧ vs.length = Ls.length ∧ (∀ (i : Nat) v L, vs[i]? = some v → Ls[i]? = some L → LayAt G v L) ∧ ∀ x, V.ref x ∈ vs → x ≠ p ∧ H0 x = none
theorem NestV.nest {H0 G : Hp} {p : Addr} {vs : List V} {Ls : List Lay} (h : NestV H0 G p vs Ls) : NestAt G p Ls := ⟨vs, h.1, h.2.1, h.2.2.1⟩
theorem NestV.same {H0 G G' : Hp} {p : Addr} {vs : List V} {Ls : List Lay} (h : NestV H0 G p vs Ls) (e : Same G G') : NestV H0 G' p vs Ls :=
  ⟨e _ _ h.1, h.2.1, fun i v L a b => (h.2.2.1 i v L a b).same e, h.2.2.2⟩
theorem NestV.nil {H0 G : Hp} {p : Addr} (h : G p = some (.lst [])) : NestV H0 G p [] [] := ⟨h, rfl, (fun _ _ _ z => nomatch z), (fun _ z => nomatch z)⟩
theorem LayAt.keep {G : Hp} {p : Addr} {o : HO} {v : V} {L : Lay} (h : LayAt G v L) (ne : ∀ x, v = V.ref x → x ≠ p) : LayAt (upd G p o) v L := by
  cases L with
  | pol ns => obtain ⟨x, e, z⟩ := h; exact ⟨x, e, by rw [upd_ne (ne x e)]; exact z⟩
  | con w n => obtain ⟨x, e, z⟩ := h; exact ⟨x, e, by rw [upd_ne (ne x e)]; exact z⟩
theorem NestV.push {H0 G : Hp} {p x : Addr} {vs : List V} {Ls : List Lay} {L : Lay} (h : NestV H0 G p vs Ls) (hx : LayAt G (.ref x) L) (ne : x ≠ p) (fr : H0 x = none) :
    NestV H0 (upd G p (.lst (vs ++ [.ref x]))) p (vs ++ [.ref x]) (Ls ++ [L]) := by
  obtain ⟨h1, h2, h3, h4⟩ := h
  refine ⟨upd_same, by rw [List.length_append, List.length_append, h2]; rfl, fun i v M a b => ?_, fun y hy => ?_⟩
  · by_cases hi : i < vs.length
    · rw [List.getElem?_append_left hi] at a
      rw [List.getElem?_append_left (by omega)] at b
      exact (h3 i v M a b).keep fun y e => (h4 y (e ▸ List.mem_of_getElem? a)).1
    · rw [List.getElem?_append_right (by omega)] at a
      rw [List.getElem?_append_right (by omega), ← h2] at b
      generalize i - vs.length = k at *
      cases k with
      | zero =>
        cases a
        cases b
        exact hx.keep fun y e => by cases e; exact ne
      | succ k => cases a
  · rcases List.mem_append.mp hy with z | z
    · exact h4 y z
    · have := List.mem_singleton.mp z
      cases this
      exact ⟨ne, fr⟩
/-- one of its lists of ints is changed in place, its length kept -/
theorem NestV.turn {H0 G : Hp} {p x : Addr} {vs : List V} {Ls : List Lay} {ws us : List Int} (h : NestV H0 G p vs Ls) (hx : G x = some (.lst (ws.map V.int))) (ne : x ≠ p) (hl : us.length = ws.length) :
    ∃ Ms : List Lay, NestV H0 (upd G x (.lst (us.map V.int))) p vs Ms ∧ Ms.map Lay.cnt = Ls.map Lay.cnt ∧ ∀ M ∈ Ms, M ∈ Ls ∨ (M = .pol us ∧ Lay.pol ws ∈ Ls) := by
  obtain ⟨h1, h2, h3, h4⟩ := h
  suffices key : ∀ (vs : List V) (Ls : List Lay), vs.length = Ls.length → (∀ (i : Nat) v L, vs[i]? = some v → Ls[i]? = some L → LayAt G v L) →
      ∃ Ms : List Lay, vs.length = Ms.length ∧ (∀ (i : Nat) v L, vs[i]? = some v → Ms[i]? = some L → LayAt (upd G x (.lst (us.map V.int))) v L) ∧ Ms.map Lay.cnt = Ls.map Lay.cnt ∧ ∀ M ∈ Ms, M ∈ Ls ∨ (M = .pol us ∧ Lay.pol ws ∈ Ls) by
    obtain ⟨Ms, k1, k2, k3, k4⟩ := key vs Ls h2 h3
    exact ⟨Ms, ⟨by rw [upd_ne ne.symm]; exact h1, k1, k2, h4⟩, k3, k4⟩
  clear h1 h2 h3 h4
  intro vs
  induction vs with
  | nil =>
    intro Ls hl _
    have : Ls = [] := List.length_eq_zero_iff.mp hl.symm
    subst this
    exact ⟨[], rfl, (fun _ _ _ z => nomatch z), rfl, (fun _ z => nomatch z)⟩
  | cons v vs ih =>
    intro Ls hlen hat
    cases Ls with
    | nil => cases hlen
    | cons L Ls =>
      obtain ⟨Ms, k1, k2, k3, k4⟩ := ih Ls (by simpa using hlen) fun i u M a b => hat (i + 1) u M a b
      have h0 := hat 0 v L rfl rfl
      by_cases e : v = V.ref x
      · subst e
        have hL : L = .pol ws := by
          cases L with
          | pol ns =>
            obtain ⟨y, e, z⟩ := h0
            cases e
            rw [hx] at z
            injection z with z
            injection z with z
            have : ∀ (as bs : List Int), as.map V.int = bs.map V.int → as = bs := by
              intro as
              induction as with
              | nil => intro bs q; cases bs with
                | nil => rfl
                | cons b bs => cases q
              | cons a as ih => intro bs q; cases bs with
                | nil => cases q
                | cons b bs =>
                  injection q with q1 q2
                  injection q1 with q1
                  rw [q1, ih bs q2]
            rw [this _ _ z]
          | con w n =>
            obtain ⟨y, e, z⟩ := h0
            cases e
            rw [hx] at z
            cases z
        refine ⟨.pol us :: Ms, by rw [List.length_cons, List.length_cons, k1], fun i u M a b => ?_, ?_, fun M hM => ?_⟩
        · cases i with
          | zero =>
            cases a
            cases b
            exact ⟨x, rfl, upd_same⟩
          | succ i => exact k2 i u M a b
        · rw [List.map_cons, List.map_cons, k3, hL]
          show ((us.length : Int) + 1) :: _ = ((ws.length : Int) + 1) :: _
          rw [hl]
        · rcases List.mem_cons.mp hM with z | z
          · exact .inr ⟨z, by rw [hL]; exact List.mem_cons_self⟩
          · rcases k4 M z with z | ⟨z1, z2⟩
            · exact .inl (List.mem_cons_of_mem _ z)
            · exact .inr ⟨z1, List.mem_cons_of_mem _ z2⟩
      · refine ⟨L :: Ms, by rw [List.length_cons, List.length_cons, k1], fun i u M a b => ?_, ?_, fun M hM => ?_⟩
        · cases i with
          | zero =>
            cases a
            cases b
            exact h0.keep fun y q z => e (by rw [q, z])
          | succ i => exact k2 i u M a b
        · rw [List.map_cons, List.map_cons, k3]
        · rcases List.mem_cons.mp hM with z | z
          · exact .inl (z ▸ List.mem_cons_self)
          · rcases k4 M z with z | ⟨z1, z2⟩
            · exact .inl (List.mem_cons_of_mem _ z)
            · exact .inr ⟨z1, List.mem_cons_of_mem _ z2⟩
theorem attOf_cnt : ∀ (Ls : List Lay) (t : Int), Ls.foldl (fun t L => t * L.cnt) t = (Ls.map Lay.cnt).foldl (fun t c => t * c) t
  | [], _ => rfl
  | L :: Ls, t => by
    rw [List.foldl_cons, List.map_cons, List.foldl_cons]
    exact attOf_cnt Ls _
theorem attOf_same {Ls Ms : List Lay} (h : Ms.map Lay.cnt = Ls.map Lay.cnt) : attOf Ms = attOf Ls := by
  unfold attOf
  rw [attOf_cnt, attOf_cnt, h]
/-- a layer that a law draws -/
def Lay.nice (L : Lay) : Prop := L.ok = true ∧ match L with
  | .pol ns => ns.length ≤ 60 ∧ ∀ x ∈ ns, 0 ≤ x ∧ x < 1000000000000
  | .con w n => w < 1000000000000 ∧ n < 1000000000000000000000
theorem Lay.nice_pol {ns : List Int} (h : ns.length ≤ 60) (hb : ∀ x ∈ ns, 0 ≤ x ∧ x < 1000000000000) : (Lay.pol ns).nice := ⟨pol_ok hb, h, hb⟩
theorem Lay.nice_con {w n : Int} (h0 : 0 ≤ w) (h1 : w < 1000000000000) (h2 : 1 ≤ n) (h3 : n < 1000000000000000000000) : (Lay.con w n).nice :=
  ⟨by rw [Lay.ok_con, decide_eq_true h0, decide_eq_true h2]; rfl, h1, h3⟩
theorem attOf_snoc (Ls : List Lay) (L : Lay) : attOf (Ls ++ [L]) = attOf Ls * L.cnt := by
  unfold attOf
  rw [List.foldl_append]
  rfl
theorem attOf_lt : ∀ n (Ls : List Lay), Ls.length = n → (∀ L ∈ Ls, L.ok = true ∧ L.cnt < 2 ^ 100) → 0 < attOf Ls ∧ (attOf Ls).natAbs < 2 ^ (100 * n + 1)
  | 0, Ls, e, _ => by
    have e' : Ls = [] := List.length_eq_zero_iff.mp e
    subst e'
    exact ⟨by decide, by decide⟩
  | n + 1, Ls, e, h => by
    have hne : Ls ≠ [] := fun z => by rw [z] at e; cases e
    obtain ⟨Ms, L, rfl⟩ : ∃ Ms L, Ls = Ms ++ [L] := ⟨_, _, (List.dropLast_concat_getLast hne).symm⟩
    rw [List.length_append] at e
    obtain ⟨i1, i2⟩ := attOf_lt n Ms (by simpa using e) fun M hM => h M (List.mem_append_left _ hM)
    obtain ⟨h1, h2⟩ := h L (List.mem_append_right _ List.mem_cons_self)
    have h3 := LayAt.con_pos h1
    rw [attOf_snoc]
    refine ⟨Int.mul_pos i1 (by omega), ?_⟩
    have z := wide_lt (i := attOf Ms) (j := L.cnt) (b := 100) i2 (by omega)
    rw [show 100 * (n + 1) + 1 = 100 * n + 1 + 100 by omega]
    exact z
theorem flatL_snoc (Ls : List Lay) (L : Lay) : flatL (Ls ++ [L]) = if L.cnt > 1 then nestL (flatL Ls) L.waits else flatL Ls := by
  unfold flatL
  rw [List.foldl_append]
  rfl
theorem waits_len {L : Lay} (h : L.ok = true) : (L.waits.length : Int) + 1 = L.cnt := by
  cases L with
  | pol ns => rfl
  | con w n =>
    have := LayAt.con_pos h
    have : 1 ≤ n := this
    show ((List.replicate (n - 1).toNat w).length : Int) + 1 = n
    rw [List.length_replicate]
    omega
theorem flatL_len : ∀ n (Ls : List Lay), Ls.length = n → (∀ L ∈ Ls, L.ok = true) → ((flatL Ls).length : Int) + 1 = attOf Ls
  | 0, Ls, e, _ => by
    have e' : Ls = [] := List.length_eq_zero_iff.mp e
    subst e'
    rfl
  | n + 1, Ls, e, h => by
    have hne : Ls ≠ [] := fun z => by rw [z] at e; cases e
    obtain ⟨Ms, L, rfl⟩ : ∃ Ms L, Ls = Ms ++ [L] := ⟨_, _, (List.dropLast_concat_getLast hne).symm⟩
    rw [List.length_append] at e
    have ih := flatL_len n Ms (by simpa using e) fun M hM => h M (List.mem_append_left _ hM)
    have h1 := h L (List.mem_append_right _ List.mem_cons_self)
    have h3 := LayAt.con_pos h1
    have h4 := waits_len h1
    rw [attOf_snoc, flatL_snoc, ← ih]
    split
    · have e5 := nestL_len (flatL Ms) L.waits
      rw [← h4]
      exact_mod_cast e5
    · have : L.cnt = 1 := by omega
      rw [this, Int.mul_one]
theorem attOf_part : ∀ (Ms Ls : List Lay), (∀ L ∈ Ls, L.ok = true) → (∀ L ∈ Ms, L.ok = true) → 1 ≤ attOf Ms ∧ attOf Ms ≤ attOf (Ms ++ Ls)
  | Ms, [], _, h => by
    rw [List.append_nil]
    refine ⟨?_, Int.le_refl _⟩
    have := flatL_len _ Ms rfl h
    omega
  | Ms, L :: Ls, h0, h => by
    have h1 := attOf_part (Ms ++ [L]) Ls (fun M hM => h0 M (List.mem_cons_of_mem _ hM)) (fun M hM => by
      rcases List.mem_append.mp hM with z | z
      · exact h M z
      · rw [List.mem_singleton.mp z]
        exact h0 L List.mem_cons_self)
    rw [List.append_assoc] at h1
    have h2 := LayAt.con_pos (h0 L List.mem_cons_self)
    have h3 := flatL_len _ Ms rfl h
    rw [attOf_snoc] at h1
    have h4 : attOf Ms * 1 ≤ attOf Ms * L.cnt := Int.mul_le_mul_of_nonneg_left h2 (by omega)
    refine ⟨by omega, ?_⟩
    have h5 : attOf Ms * L.cnt ≤ attOf (Ms ++ ([L] ++ Ls)) := h1.2
    have h6 : Ms ++ L :: Ls = Ms ++ ([L] ++ Ls) := rfl
    rw [h6]
    omega
theorem cnt_le {Ls : List Lay} (h : ∀ L ∈ Ls, L.ok = true) {L : Lay} (hL : L ∈ Ls) : L.cnt ≤ attOf Ls := by
  obtain ⟨As, Bs, rfl⟩ := List.append_of_mem hL
  have h1 := attOf_part As [] (fun _ z => nomatch z) (fun M hM => h M (List.mem_append_left _ hM))
  have h2 := attOf_part (As ++ [L]) Bs (fun M hM => h M (List.mem_append_right _ (List.mem_cons_of_mem _ hM))) (fun M hM => by
    rcases List.mem_append.mp hM with z | z
    · exact h M (List.mem_append_left _ z)
    · rw [List.mem_singleton.mp z]
      exact h L hL)
  have h3 := LayAt.con_pos (h L hL)
  rw [attOf_snoc, List.append_assoc] at h2
  have h4 : 1 * L.cnt ≤ attOf As * L.cnt := Int.mul_le_mul_of_nonneg_right h1.1 (by omega)
  have h5 : attOf As * L.cnt ≤ attOf (As ++ ([L] ++ Bs)) := h2.2
  have h6 : As ++ L :: Bs = As ++ ([L] ++ Bs) := rfl
  rw [h6]
  omega
theorem attOf_pos {Ls : List Lay} (h : ∀ L ∈ Ls, L.ok = true) : 1 ≤ attOf Ls := (attOf_part Ls [] (fun _ z => nomatch z) h).1
theorem part_left {t c left most : Int} (ht : 1 ≤ t) (hc : 1 ≤ c) (hl : c ≤ left) (h : t * left ≤ most) : 1 ≤ left / c ∧ t * c * (left / c) ≤ most := by
  refine ⟨by rw [Int.le_ediv_iff_mul_le (by omega)]; omega, ?_⟩
  have h1 : c * (left / c) ≤ left := by
    have := Int.mul_ediv_add_emod left c
    have := Int.emod_nonneg left (show c ≠ 0 by omega)
    omega
  rw [Int.mul_assoc]
  exact Int.le_trans (Int.mul_le_mul_of_nonneg_left h1 (by omega)) h
theorem le_left {t left most : Int} (ht : 1 ≤ t) (hl : 1 ≤ left) (h : t * left ≤ most) : t ≤ most := by
  have : t * 1 ≤ t * left := Int.mul_le_mul_of_nonneg_left hl (by omega)
  omega
theorem rep_flat {α : Type} (x : α) : ∀ m : Nat, (List.replicate m [x]).flatten = List.replicate m x
  | 0 => rfl
  | m + 1 => by
    rw [List.replicate_succ, List.flatten_cons, rep_flat x m, List.replicate_succ]
    rfl
def Lay.dat : Lay → PyData
  | .pol ns => dInts ns
  | .con w n => .tuple [.int w, .int n]
theorem dp_lay {K : PySem.W.Frag} {G : Hp} {v : V} {L : Lay} (h : LayAt G v L) : Dp K G v L.dat := by
  cases L with
  | pol ns => obtain ⟨p, rfl, hp⟩ := h; exact dp_ints (sql hp)
  | con w n => obtain ⟨p, rfl, hp⟩ := h; exact .tup (sqt hp) (.cons (.int w) (.cons (.int n) .nil))
theorem dp_lays {K : PySem.W.Frag} {G : Hp} : ∀ (vs : List V) (Ls : List Lay), vs.length = Ls.length → (∀ (i : Nat) v L, vs[i]? = some v → Ls[i]? = some L → LayAt G v L) → DpAll K G vs (Ls.map Lay.dat)
  | [], [], _, _ => .nil
  | [], _ :: _, h, _ => by cases h
  | _ :: _, [], h, _ => by cases h
  | v :: vs, L :: Ls, h, hat => .cons (dp_lay (hat 0 v L rfl rfl)) (dp_lays vs Ls (by simpa using h) fun i u M a b => hat (i + 1) u M a b)
theorem dp_nest {K : PySem.W.Frag} {G : Hp} {p : Addr} {Ls : List Lay} (h : NestAt G p Ls) : Dp K G (.ref p) (.list (Ls.map Lay.dat)) := by
  obtain ⟨vs, h1, h2, h3⟩ := h
  exact .lst (sql h1) (dp_lays vs Ls h2 h3)
theorem cut_one (xs : List V) : cutV xs none (some 1) = xs.take 1 := by
  unfold cutV
  rw [HT.sIx_none, show HT.sIx xs.length xs.length (some 1) = min 1 xs.length from HT.sIx_nat xs.length _ 1]
  cases xs with
  | nil => rfl
  | cons x r =>
    rw [show min 1 (x :: r).length = 1 by rw [List.length_cons]; omega]
    rfl
theorem flatL_con {w n : Int} (h0 : 0 ≤ w) (h1 : 1 ≤ n) : flatL [.con w n] = List.replicate (n - 1).toNat w := by
  rw [flatL_fold fun L hL => by rw [List.mem_singleton.mp hL, Lay.ok_con, decide_eq_true h0, decide_eq_true h1]; rfl]
  show nestL [] (List.replicate (n - 1).toNat w) = _
  rw [nil_nestL]
theorem NestV.low {H0 G : Hp} {a d p : Addr} {us : List V} {Ls : List Lay} (hv : NestV H0 (hid a d G) p us Ls) : NestAt G p Ls := by
  obtain ⟨z1, z2, z3, _⟩ := hv
  refine ⟨us, (hid_get z1).1, z2, fun i v L x y => ?_⟩
  have := z3 i v L x y
  cases L with
  | pol ns => obtain ⟨p, e, z⟩ := this; exact ⟨p, e, (hid_get z).1⟩
  | con w n => obtain ⟨p, e, z⟩ := this; exact ⟨p, e, (hid_get z).1⟩
theorem nice_cnt {L : Lay} (h : L.nice) : L.cnt < 2 ^ 100 := by
  obtain ⟨h0, h1⟩ := h
  cases L with
  | pol ns =>
    obtain ⟨h1, _⟩ := h1
    show (ns.length : Int) + 1 < 2 ^ 100
    omega
  | con w n =>
    obtain ⟨_, h1⟩ := h1
    show n < 2 ^ 100
    omega
theorem cut_n (xs : List V) (n : Nat) : cutV xs none (some (n : Int)) = xs.take n := by
  unfold cutV
  rw [HT.sIx_none, show HT.sIx xs.length xs.length (some (n : Int)) = min n xs.length from HT.sIx_nat xs.length _ n]
  show (xs.drop 0).take (min n xs.length - 0) = _
  rw [List.drop_zero, Nat.sub_zero]
  by_cases h : n ≤ xs.length
  · rw [Nat.min_eq_left h]
  · rw [Nat.min_eq_right (by omega), List.take_length, List.take_of_length_le (by omega)]
end Rn

set_option Elab.async false
set_option linter.all false
set_option maxRecDepth 100000
set_option maxHeartbeats 4000000
namespace Rn
open PySem PySem.Spec PyProof.Rows L2
/-! ## repr of data; a law entered where no list is being shown -/
section
variable {X : Cx} {K : PySem.W.Frag}
def rRepr (K : PySem.W.Frag) : List V → Hp → VK → Prop := fun xs H Q => ∃ (p : Addr) (d : PyData), xs = [.ref p] ∧ Dp K H (.ref p) d ∧ d.showable = true ∧ d.hasDict = false ∧ d.depth ≤ 50 ∧ d.shown.length ≤ sizeLine ∧ Q (.str d.shown) H
theorem call_repr {k : Nat} (hg : X.A.guards = some []) (hr : Room k X.A) : CallR X (.builtin "repr") (rRepr X.K) := by
  intro pins s σ H xs us Q I r h
  obtain ⟨p, d, rfl, hd, hs, hh, hdep, hz, q⟩ := h
  cases r with
  | cons r1 r2 =>
    cases r2
    cases r1
    obtain ⟨as, rd⟩ := Dp.reads I d _ _ hd rfl
    have hu := hr.units
    exact repr_of_reads' rd hs (PyData.noDict_hsm hh) hg (by omega) (fun _ _ e => e) (fun h' u tk hk => ⟨.str d.shown, H, I.kept (t' := tk) hk, ⟨u, rfl⟩, q⟩) hz
end
section
variable {P : Program} {w : World} {K : PySem.W.Frag} {mg : Str → Option Value} {base : Heap}
/-- a promise that is kept wherever nothing is being shown -/
def FnG (P : Program) (w : World) (K : PySem.W.Frag) (mg : Str → Option Value) (base : Heap) (k : Nat) (f : Addr) (fd : FuncData) (ps : List Str) (sp : Sp) : Prop :=
  ∀ (A : Around) (outer : List Env) (s : Shared) (H : Hp) (args : Args) (us : List Value) (vs : List V) (Q : VK) (E : XK), A.guards = some [] → Room k A → Env0 P w K mg base A outer s H →
    BindsTo s fd args (ps.zip us) → Vals vs us → vs.length = ps.length → sp vs H Q E → codeAny (model P w) A (.call (.ref f) args) (CR CX0 outer P w H s Q E) s
theorem okG {x qual : Str} {st : Stmt} {f : Addr} {fd : FuncData} {N ps : List Str} {k : Nat} {sp : Sp} (F : Fun K x qual st f fd) (S : FnScope N ps (defScope st))
    (hbody : ∀ (cdv : Value) (A : Around) (outer : List Env) (s : Shared) (H : Hp) (vs : List V) (Q : VK) (E : XK), A.guards = some [] → Room k (A.deeper (envOfC qual (defScope st) s.heap.objs.size f cdv)) → sp vs H Q E →
      ∃ t, PSs (cxOf CX0 P w K mg base N qual (defScope st) f cdv A outer s H E).nox (defBody st) t ∧ t { nx := fun _ H' => Q .non H', rt := Q } (start N vs) H) :
    FnG P w K mg base (k + 1) f fd ps sp := by
  obtain ⟨oc, od, kV, doc, pm, an, cdv, ct, osl, efd, look, code⟩ := F.ex
  subst efd
  intro A outer s H args us vs Q E guard room e0 bind rel hlen want
  have same : ∀ b o, base.get? b = some o → s.heap.get? b = some o := fun b o z => (e0.bs b o z).1
  refine Att.call_fn (e0.mod.kin.keeps same) (e0.mod.nolimit.keeps same) look code room.depth bind ?_ (fun s1 x1 => ?_) S.co S.gen S.kind
  · rw [List.all_eq_true]
    rintro ⟨n, v⟩ hm
    rcases S.par n (List.of_mem_zip hm).1 with z | z
    · simp [z]
    · simp [z]
  obtain ⟨t, ht, hq⟩ := hbody cdv A outer s H vs Q E guard (room.deeper _) want
  have start0 : Inv (cxOf CX0 P w K mg base N qual (defScope st) f cdv A outer s H E) [] (start N vs) H s1 := inv_start S room.hd e0 hlen rel x1
  refine wpAny_mono (ht.nox.run [] s1 _ H _ start0 hq) (fun flow s2 done => ?_) (fun _ _ z => z)
  cases flow with
  | brk => exact (by obtain ⟨_, _, _, z⟩ := done; exact False.elim z)
  | cont => exact (by obtain ⟨_, _, _, z⟩ := done; exact False.elim z)
  | next =>
    obtain ⟨_, H2, J, z⟩ := done
    exact ⟨.non, H2, J.os, J.bare, J.base, J.hok, rfl, z⟩
  | ret u =>
    obtain ⟨v, _, H2, J, rv, z⟩ := done
    exact ⟨v, H2, J.os, J.bare, J.base, J.hok, rv, z⟩
/-- the heap's view at a law's entry: the script is known to the object, unless it is one of the text's own -/
def seen (K : PySem.W.Frag) (a : Addr) (vs : List Value) (ns : List Int) : Hp := fun b =>
  if b = a ∧ K.lookup a = none then some (.frz { cls := .type "list", data := .seq vs.toArray } (.lst (ns.map V.int))) else none
theorem seen_some {a b : Addr} {vs : List Value} {ns : List Int} {o : HO} (h : seen K a vs ns b = some o) : b = a ∧ K.lookup a = none ∧ o = .frz { cls := .type "list", data := .seq vs.toArray } (.lst (ns.map V.int)) := by
  unfold seen at h
  by_cases z : b = a ∧ K.lookup a = none
  · rw [if_pos z] at h
    exact ⟨z.1, z.2, (Option.some.inj h).symm⟩
  · rw [if_neg z] at h
    cases h
theorem law_at {mb : Str → Option Value} {fa a : Addr} {s1 : Shared} {vs : List Value} {ns : List Int} (hK : K.In s1.heap) (hmg : s1.heap.Ns mainGlobals mg) (hmb : s1.heap.Ns builtinsNs mb)
    (hbo : ∀ x : Str, x ≠ "__name__" → mb x = bootBuiltins x) (lim : s1.heap.NoLimit) (gens : s1.gens = #[]) (here : s1.heap.get? a = some { cls := .type "list", data := .seq vs.toArray }) (nums : IntsAre vs ns) (few : ns.length ≤ 63)
    (run : ∀ (base : Heap) (H : Hp), K.In base → base.Ns mainGlobals mg → Env0 P w K mg base callerA [] s1 H → SqL K H a (ns.map V.int) → codeAny (model P w) callerA (.call (.ref fa) ⟨[.ref a], []⟩) (CR CX0 [] P w H s1 (fun v _ => v = .bl true) E0) s1) :
    codeAny (model P w) callerA (.call (.ref fa) ⟨[.ref a], []⟩) (fun r s' => r = .ok (.ret (.bool true)) ∧ OldK s1.heap s'.heap ∧ s'.os = s1.os ∧ AllBare s'.gens) s1 := by
  have rel := vals_ints nums
  have cnt := nums.length
  have notDict : ∀ {b : Addr} {m : Str → Option Value}, s1.heap.Ns b m → seen K a vs ns b = none := fun {b m} z => by
    obtain ⟨o, es, ep, e, d, _⟩ := z
    cases q : seen K a vs ns b with
    | none => rfl
    | some u =>
      obtain ⟨eb, _, _⟩ := seen_some q
      rw [eb, here] at e
      cases e
      cases d
  have shift : ∀ {b : Addr} {m : Str → Option Value}, s1.heap.Ns b m → (hidT s1.heap (seen K a vs ns)).Ns b m := fun z => by
    have n := notDict z
    obtain ⟨o, es, ep, e, r⟩ := z
    exact ⟨o, es, ep, hidT_get e n, r⟩
  have kin : K.In (hidT s1.heap (seen K a vs ns)) := fun b o e => hidT_get (hK b o e) (by
    cases q : seen K a vs ns b with
    | none => rfl
    | some u =>
      obtain ⟨eb, en, _⟩ := seen_some q
      rw [eb, en] at e
      cases e)
  have hok : HOk P w (seen K a vs ns) s1.heap := fun b o e => by
    obtain ⟨rfl, _, rfl⟩ := seen_some e
    exact ⟨here, size_le (by rw [List.length_map]; omega), vs, _, rel, here⟩
  have env : Env0 P w K mg (hidT s1.heap (seen K a vs ns)) callerA [] s1 (seen K a vs ns) :=
    ⟨rfl, ⟨kin, shift hmg, ⟨mb, shift hmb, hbo⟩, by obtain ⟨mc, z1, z2⟩ := lim; exact ⟨mc, shift z1, z2⟩⟩, fun b o e => of_hidT e, Nat.le_of_eq (hidT_size _ _), trivial, (fun b z => nomatch z), hok, .of_eq gens⟩
  have script : SqL K (seen K a vs ns) a (ns.map V.int) := by
    cases q : K.lookup a with
    | none => exact .inl (.inr ⟨_, if_pos ⟨rfl, q⟩⟩)
    | some o =>
      have e := hK a o q
      rw [here] at e
      cases e
      exact .inr ⟨_, vs.toArray, _, q, rfl, rfl, rfl, by rw [List.size_toArray, cnt]; exact size_le (by omega), by simpa using rel⟩
  refine codeAny_mono (run _ _ kin (shift hmg) env script) fun r s' z => ?_
  cases r with
  | error e => exact False.elim z
  | ok flow =>
    cases flow with
    | brk => exact False.elim z
    | cont => exact False.elim z
    | next => exact False.elim z
    | ret u =>
      obtain ⟨v, H', os, bare, un, hok', rv, (rfl : v = .bl true)⟩ := z
      cases (show u = Value.bool true from rv)
      refine ⟨rfl, OldK.of_keep fun b o e => ?_, os, bare⟩
      cases q : seen K a vs ns b with
      | none => exact un.keep b o e q (fun z => nomatch z) (fun z => nomatch z)
      | some y =>
        obtain ⟨_, _, rfl⟩ := seen_some q
        obtain ⟨e2, _⟩ := hok' b _ (un.frzs b _ _ q)
        obtain ⟨e1, _⟩ := hok b _ q
        rw [e] at e1
        cases e1
        exact e2
end
/-- the walk's end for a law that shows lists -/
theorem walk_G {l : PySem.W.OpenLaw} {k : Nat} {q : Program} {loose : List Str} {XP : (Str → Option Value) → Heap → Prop} {YP : World → Heap → Prop} {d : DefRec} {K : Params → PySem.W.Frag} {sp : PySem.W.Frag → Sp}
    (hn : l.most = some 63) (hdf : d.params.defaults = []) (hr : Room k callerA) (hY : ∀ (w : World) (h : Heap), YP w h → (K w.params).In h)
    (F : ∀ (w : World) (mg : Str → Option Value) (fa : Addr) (h : Heap), (K w.params).In h → h.Ns mainGlobals mg → mg d.name = some (.ref fa) →
      ∃ fd : FuncData, (∀ (s : Shared) (u : Value), BindsTo s fd ⟨[u], []⟩ [("script", u)]) ∧ ∀ base : Heap, (K w.params).In base → base.Ns mainGlobals mg → FnG l.prog w (K w.params) mg base k fa fd ["script"] (sp (K w.params)))
    (hsp : ∀ (K : PySem.W.Frag) (H : Hp) (a : Addr) (ns : List Int), ns.length ≤ 63 → SqL K H a (ns.map V.int) → sp K [.ref a] H (fun v _ => v = .bl true) E0) :
    PySem.W.WalkO q loose XP YP l.row.toRowW d [] (fun f vs => PySem.call f vs) := by
  refine Att.attach_call hn hdf fun w s0 s1 mg mb fa o pm cd doc a vs ns G Y _ _ _ hmg here nums few gens => ?_
  obtain ⟨fd, bind, run⟩ := F w mg fa _ (hY w _ Y) G.T.g hmg
  exact law_at (hY w _ Y) G.T.g G.T.b G.T.builtins G.T.nolimit gens here nums few fun base H kin ns1 env script =>
    run base kin ns1 callerA [] s1 H _ [.ref a] [.ref a] _ _ rfl hr env (bind s1 (.ref a)) (.cons rfl .nil) rfl (hsp _ H a ns few script)
end Rn
namespace Rn
open PySem PySem.Spec PyProof.Rows L2
/-! ## calls by keywords alone -/
def tCallKw (sp : Sp) (gV : List V → List V → List V) (E : XK) (tk : TA) : TE := fun σ H Q => tk σ H fun zs H1 => sp (gV [] zs) H1 Q E
section
variable {X : Cx} {CX : CXT} {k : Nat} {f : Addr} {fd : FuncData} {ps ks : List Str} {sp : Sp} {E : XK} {x : Str} {p pos : Pos} {kws : List Keyword} {tk : TA} {g : List Value → List Value → List Value} {gV : List V → List V → List V}
theorem pe_callKw (F : FnOk X.prog X.w X.K X.mg X.base CX k f fd ps sp) (room : Room k X.A) (hg : Gl X x) (here : X.mg x = some (.ref f)) (keep : PySem.W.keepIn X.K (.ref f) = true) (bind : KBinds X.K fd ps ks g gV) (out : Passes CX X E)
    (hkw : PK X kws tk) (named : (backToKw pos (keywordEach kws X.env)).all (·.1.isSome) = true := by rfl) (order : (backToKw pos (keywordEach kws X.env)).filterMap (·.1) = ks := by rfl)
    (nodebug : (x == ("__debug__" : Str)) = false := by decide) (plain : ((backTo pos (starEach [] X.env)).any (·.1) || (backToKw pos (keywordEach kws X.env)).any (·.1.isNone)) = false := by rfl) :
    PE X (.Call (.Name x p) [] kws pos) (tCallKw sp gV E tk) := by
  constructor
  intro pins s σ H Q I h
  refine wpAny_Call_Name_kw (ld_glob I hg here ?_ nodebug)
  refine PySem.W.callWith_KW0 (h₀ := X.base) I.ok.mod.kin keep named (thn (hkw.run pos pins s σ H _ I h) fun ws s2 z => ?_) plain
  obtain ⟨zs, H2, I2, rz, q2⟩ := z
  rw [order]
  exact ⟨I2.kIn, run_fnk (us := []) (vs := []) F room bind out I2 .nil rz q2⟩
end
def kw1 {α : Type} : List α → List α → List α
  | [], [a] => [a]
  | _, _ => []
def kw2r {α : Type} : List α → List α → List α
  | [], [a, b] => [b, a]
  | _, _ => []
section
variable {K : PySem.W.Frag} {fd : FuncData} {p q : Str}
theorem kb1 (h : ∀ (s : Shared) (a : Value), BindsTo s fd ⟨[], [(p, a)]⟩ [(p, a)]) : KBinds K fd [p] [p] kw1 kw1 := by
  refine ⟨fun s us ws _ hl => ?_, fun {vs us zs ws} r1 r2 => ?_⟩
  · match us, ws, hl with
    | [], [a], _ => exact h s a
  · cases r1 with
    | cons _ _ => exact .nil
    | nil =>
      cases r2 with
      | nil => exact .nil
      | cons a r =>
        cases r with
        | nil => exact .cons a .nil
        | cons _ _ => exact .nil
theorem kb2r (h : ∀ (s : Shared) (a b : Value), BindsTo s fd ⟨[], [(q, a), (p, b)]⟩ [(p, b), (q, a)]) : KBinds K fd [p, q] [q, p] kw2r kw2r := by
  refine ⟨fun s us ws _ hl => ?_, fun {vs us zs ws} r1 r2 => ?_⟩
  · match us, ws, hl with
    | [], [a, b], _ => exact h s a b
  · cases r1 with
    | cons _ _ => exact .nil
    | nil =>
      cases r2 with
      | nil => exact .nil
      | cons a r =>
        cases r with
        | nil => exact .nil
        | cons b r =>
          cases r with
          | nil => exact .cons b (.cons a .nil)
          | cons _ _ => exact .nil
end
/-! ## data that can be shown -/
structure Shw (d : PyData) (W D : Nat) : Prop where
  show1 : d.showable = true
  plain : d.hasDict = false
  short : d.leavesShort 25 = true
  heavy : d.weight ≤ W
  deep : d.depth ≤ D
theorem Shw.fits {d : PyData} {W D : Nat} (s : Shw d W D) (h : W ≤ 500000) : d.shown.length ≤ sizeLine := by
  have h1 := PyData.shown_le 25 (by decide) d s.short
  have h2 := s.heavy
  have h3 : (25 + 2) * d.weight ≤ 27 * 500000 := Nat.mul_le_mul (by decide) (by omega)
  rw [sizeLine_eq]
  omega
theorem log_lt {i : Int} (h : i.natAbs < 10 ^ 24) : i.natAbs.log2 < 80 := PySem.Flt.log2_lt_of (k := 80) (by decide) (Nat.lt_trans h (by decide))
theorem Shw.int {i : Int} (h : i.natAbs < 10 ^ 24) : Shw (.int i) 80 1 := by
  have h1 := log_lt h
  refine ⟨?_, rfl, ?_, ?_, ?_⟩
  · simp only [PyData.showable, decide_eq_true_eq]
    omega
  · simp only [PyData.leavesShort, decide_eq_true_eq]
    have e := int_text_length_le10 (k := 24) (by decide) h
    show (Str.ofString (toString i)).length ≤ 25
    rw [PySem.ofString_length]
    exact e
  · simp only [PyData.weight]
    split
    · omega
    · omega
  · simp only [PyData.depth]
    omega
theorem Shw.all {W D : Nat} : ∀ ds : List PyData, (∀ d ∈ ds, Shw d W D) → PyData.showableAll ds = true ∧ PyData.hasDictAll ds = false ∧ PyData.leavesShortAll 25 ds = true ∧ PyData.weightAll ds ≤ ds.length * (W + 1) ∧ PyData.depthAll ds ≤ D
  | [], _ => ⟨rfl, rfl, rfl, Nat.zero_le _, Nat.zero_le _⟩
  | d :: ds, h => by
    obtain ⟨a1, a2, a3, a4, a5⟩ := Shw.all ds fun e he => h e (List.mem_cons_of_mem _ he)
    obtain ⟨b1, b2, b3, b4, b5⟩ := h d List.mem_cons_self
    refine ⟨?_, ?_, ?_, ?_, ?_⟩
    · simp only [PyData.showableAll, b1, a1, Bool.and_self]
    · simp only [PyData.hasDictAll, b2, a2, Bool.or_self]
    · simp only [PyData.leavesShortAll, b3, a3, Bool.and_self]
    · simp only [PyData.weightAll, List.length_cons, Nat.succ_mul]
      omega
    · simp only [PyData.depthAll]
      omega
theorem Shw.list {W D : Nat} {ds : List PyData} (h : ∀ d ∈ ds, Shw d W D) : Shw (.list ds) (ds.length * (W + 1)) (D + 1) := by
  obtain ⟨a1, a2, a3, a4, a5⟩ := Shw.all ds h
  exact ⟨by simpa only [PyData.showable] using a1, by simpa only [PyData.hasDict] using a2, by simpa only [PyData.leavesShort] using a3, by simpa only [PyData.weight] using a4, by simp only [PyData.depth]; omega⟩
theorem Shw.tuple {W D : Nat} {ds : List PyData} (h : ∀ d ∈ ds, Shw d W D) : Shw (.tuple ds) (ds.length * (W + 1)) (D + 1) := by
  obtain ⟨a1, a2, a3, a4, a5⟩ := Shw.all ds h
  exact ⟨by simpa only [PyData.showable] using a1, by simpa only [PyData.hasDict] using a2, by simpa only [PyData.leavesShort] using a3, by simpa only [PyData.weight] using a4, by simp only [PyData.depth]; omega⟩
theorem Shw.mono {d : PyData} {W W' D D' : Nat} (s : Shw d W D) (h : W ≤ W') (h' : D ≤ D') : Shw d W' D' := ⟨s.1, s.2, s.3, Nat.le_trans s.4 h, Nat.le_trans s.5 h'⟩
theorem Shw.nums {ns : List Int} (h : ∀ x ∈ ns, x.natAbs < 10 ^ 24) : Shw (dInts ns) (ns.length * 81) 2 := by
  have := Shw.list (ds := ns.map .int) (W := 80) (D := 1) fun d hd => by
    obtain ⟨x, hx, rfl⟩ := List.mem_map.mp hd
    exact Shw.int (h x hx)
  rw [List.length_map] at this
  exact this
theorem Shw.two {d e : PyData} {W D : Nat} (h1 : Shw d W D) (h2 : Shw e W D) : Shw (.list [d, e]) (2 * (W + 1)) (D + 1) :=
  Shw.list (ds := [d, e]) fun x hx => by
    simp only [List.mem_cons, List.not_mem_nil, or_false] at hx
    rcases hx with rfl | rfl
    · exact h1
    · exact h2
theorem ne_str {x y : Str} {A B : Prop} (h : x = y) (b : B) : if (!decide (V.str x = V.str y)) = true then A else B := by
  rw [h, decide_eq_true rfl]
  exact iteF b
theorem Shw.lay {L : Lay} (h : L.nice) : Shw L.dat 4860 2 := by
  obtain ⟨h0, h1⟩ := h
  cases L with
  | pol ns =>
    obtain ⟨h1, h2⟩ := h1
    exact (Shw.nums fun x hx => by have := h2 x hx; omega).mono (by omega) (Nat.le_refl _)
  | con w n =>
    obtain ⟨h1, h2⟩ := h1
    have h3 := LayAt.con_pos h0
    have h3 : 1 ≤ n := h3
    rw [Lay.ok_con, Bool.and_eq_true] at h0
    have h4 := of_decide_eq_true h0.1
    refine (Shw.tuple (ds := [.int w, .int n]) (W := 80) (D := 1) fun d hd => ?_).mono (by show 2 * 81 ≤ 4860; decide) (Nat.le_refl _)
    simp only [List.mem_cons, List.not_mem_nil, or_false] at hd
    rcases hd with rfl | rfl
    · exact Shw.int (by omega)
    · exact Shw.int (by omega)
theorem Shw.nest {Ls : List Lay} {m : Nat} (h : ∀ L ∈ Ls, L.nice) (hl : Ls.length ≤ m) : Shw (.list (Ls.map Lay.dat)) (m * 4861) 3 := by
  refine (Shw.list (ds := Ls.map Lay.dat) (W := 4860) (D := 2) fun d hd => ?_).mono (by rw [List.length_map]; exact Nat.mul_le_mul_right _ hl) (Nat.le_refl _)
  obtain ⟨L, hL, rfl⟩ := List.mem_map.mp hd
  exact Shw.lay (h L hL)
end Rn

set_option Elab.async false
set_option linter.all false
set_option maxRecDepth 100000
set_option maxHeartbeats 4000000
namespace Rn
open PySem PySem.Spec PyProof.Rows L2
/-! ## ** of great ints -/
def CPowW (i j : Int) : Prop := 0 ≤ j ∧ (Builtin.Int.intBits i : Int) * j ≤ 2 ^ 27
theorem op_powW {X : Cx} : OpR X (binaryOp .Pow) (rI CPowW fun i j => .int (i ^ j.toNat)) := opI fun _ _ _ _ _ _ _ hc q => pow_int hc.1 hc.2 q
theorem pow_ok {i : Int} {k : Nat} (h : i.natAbs < 2 ^ k) (h0 : 0 < k) (hk : k ≤ 1000) : CPowW i 3 := by
  refine ⟨by decide, ?_⟩
  have h1 := PySem.Flt.log2_lt_of h0 h
  have h2 : Builtin.Int.intBits i ≤ i.natAbs.log2 + 1 := by
    unfold Builtin.Int.intBits
    split <;> omega
  omega
/-! ## the other source of draws: three ints in one list -/
def Rng (H : Hp) (a : Addr) (n : Int) : Prop := ∃ dg seed cnt : Int, H a = some (.lst [.int dg, .int seed, .int cnt]) ∧ 0 ≤ seed ∧ seed < 4000000000000000000 ∧ 0 ≤ cnt ∧ cnt ≤ n
theorem Rng.same {H H' : Hp} {a : Addr} {n : Int} (s : Rng H a n) (e : Same H H') : Rng H' a n := by
  obtain ⟨dg, seed, cnt, h, r⟩ := s
  exact ⟨dg, seed, cnt, e _ _ h, r⟩
theorem Rng.keep {H : Hp} {a p : Addr} {o : HO} {n : Int} (s : Rng H a n) (ha : p ≠ a) : Rng (upd H p o) a n := by
  obtain ⟨dg, seed, cnt, h, r⟩ := s
  exact ⟨dg, seed, cnt, by rw [upd_ne ha.symm]; exact h, r⟩
theorem Rng.mono {H : Hp} {a : Addr} {n m : Int} (s : Rng H a n) (h : n ≤ m) : Rng H a m := by
  obtain ⟨dg, seed, cnt, h1, h2, h3, h4, h5⟩ := s
  exact ⟨dg, seed, cnt, h1, h2, h3, h4, Int.le_trans h5 h⟩
theorem Rng.new1 {H : Hp} {a p : Addr} {n : Int} (s : Rng H a n) (h : H p = none) : p ≠ a := by
  obtain ⟨dg, seed, cnt, h1, _⟩ := s
  exact (ne_of_none h1 h).symm
structure Rdv (a : Addr) (c : Int) (H H' : Hp) : Prop where
  same : Same (hid a a H) (hid a a H')
  src : ∀ n, Rng H a n → Rng H' a (n + c)
theorem Rdv.refl {a : Addr} {H : Hp} : Rdv a 0 H H := ⟨Same.refl _, fun n s => s.mono (by omega)⟩
theorem Rdv.trans {a : Addr} {c c' e : Int} {H H1 H2 : Hp} (x : Rdv a c H H1) (y : Rdv a c' H1 H2) (h : c + c' ≤ e) : Rdv a e H H2 :=
  ⟨x.same.trans y.same, fun n s => (y.src _ (x.src _ s)).mono (by omega)⟩
theorem Rdv.mono {a : Addr} {c e : Int} {H H1 : Hp} (x : Rdv a c H H1) (h : c ≤ e) : Rdv a e H H1 := ⟨x.same, fun n s => (x.src _ s).mono (by omega)⟩
theorem Rdv.of {a : Addr} {H H' : Hp} (e : Same H H') : Rdv a 0 H H' := ⟨hid_same e, fun n s => (s.same e).mono (by omega)⟩
theorem Rdv.mut {a : Addr} {c : Int} {H H' : Hp} {p : Addr} {o : HO} {n : Int} (x : Rdv a c H H') (s : Rng H a n) (h : H p = none) : Rdv a c H (upd H' p o) := by
  have h1 := s.new1 h
  refine ⟨?_, fun m t => (x.src m t).keep h1⟩
  rw [hid_oth h1 h1]
  exact same_keep x.same (hid_none h)
theorem Rdv.free {a p : Addr} {c n : Int} {H H' : Hp} (x : Rdv a c H H') (s : Rng H a n) (h : H' p = none) : H p = none := by
  have h1 := (x.src n s).new1 h
  cases q : H p with
  | none => rfl
  | some o =>
    have e := (hid_get (x.same p o (hid_at q h1 h1))).1
    rw [h] at e
    cases e
theorem Rdv.made {a : Addr} {c dg seed cnt dg' cnt' : Int} {H H' : Hp} (e : Same (hid a a H) (hid a a H')) (h : H a = some (.lst [.int dg, .int seed, .int cnt]))
    (h' : H' a = some (.lst [.int dg', .int seed, .int cnt'])) (h0 : cnt ≤ cnt') (h1 : cnt' ≤ cnt + c) : Rdv a c H H' := by
  refine ⟨e, fun n s => ?_⟩
  obtain ⟨d2, s2, c2, a1, a3, a4, a5, a6⟩ := s
  rw [h] at a1
  cases a1
  exact ⟨dg', seed, cnt', h', a3, a4, by omega, by omega⟩
/-! ## an expression cut off by a word of its own -/
def tCutE (t : TE) : TE := fun σ H Q => ∃ R : V → Hp → Prop, t σ H R ∧ ∀ v H', R v H' → Q v H'
theorem pe_cutE {X : Cx} {e : Expr} {t : TE} (h : PE X e t) : PE X e (tCutE t) := ⟨fun pins s σ H Q I hw =>
  let ⟨R, h1, h2⟩ := hw
  thn (h.run pins s σ H R I h1) fun v s1 ⟨x, H1, I1, r1, q1⟩ => ⟨x, H1, I1, r1, h2 _ _ q1⟩⟩
end Rn

set_option Elab.async false
set_option linter.all false
set_option maxRecDepth 100000
set_option maxHeartbeats 4000000
namespace Rn
open PySem PySem.Spec PyProof.Rows L2
/-! ## waits and times by number -/
def Lay.n (L : Lay) : Nat := L.cnt.toNat
theorem Lay.n_cnt {L : Lay} (h : L.ok = true) : (L.n : Int) = L.cnt := by
  have := LayAt.con_pos h
  unfold Lay.n
  omega
theorem Lay.n_pos {L : Lay} (h : L.ok = true) : 1 ≤ L.n := by
  have := LayAt.con_pos h
  unfold Lay.n
  omega
def Lay.wt : Lay → Nat → Int
  | .pol ns, j => ns.getD (j - 1) 0
  | .con w _, _ => w
def Lay.pt : Lay → Nat → Int
  | .pol ns, j => (ns.take j).sum
  | .con w _, j => w * (j : Int)
def waitN : List Lay → Nat → Int
  | [], _ => 0
  | L :: Ls, i => if i % L.n = 0 then waitN Ls (i / L.n) else L.wt (i % L.n)
def timeN : List Lay → Nat → Int
  | [], _ => 0
  | L :: Ls, i => ((i / L.n : Nat) : Int) * L.pt (L.n - 1) + L.pt (i % L.n) + timeN Ls (i / L.n)
def attN : List Lay → Nat
  | [] => 1
  | L :: Ls => L.n * attN Ls
theorem attOf_from : ∀ (Ls : List Lay) (t : Int), Ls.foldl (fun t L => t * L.cnt) t = t * attOf Ls
  | [], t => by
    show t = t * 1
    rw [Int.mul_one]
  | L :: Ls, t => by
    unfold attOf
    rw [List.foldl_cons, List.foldl_cons, attOf_from Ls, attOf_from Ls (1 * L.cnt), Int.one_mul, Int.mul_assoc]
theorem attOf_cons (L : Lay) (Ls : List Lay) : attOf (L :: Ls) = L.cnt * attOf Ls := by
  unfold attOf
  rw [List.foldl_cons, attOf_from, Int.one_mul]
  rfl
theorem attN_of : ∀ {Ls : List Lay}, (∀ L ∈ Ls, L.ok = true) → (attN Ls : Int) = attOf Ls
  | [], _ => rfl
  | L :: Ls, h => by
    rw [attOf_cons, ← attN_of (Ls := Ls) fun M hM => h M (List.mem_cons_of_mem _ hM), ← Lay.n_cnt (h L List.mem_cons_self)]
    show ((L.n * attN Ls : Nat) : Int) = _
    push_cast
    rfl
theorem attN_pos : ∀ {Ls : List Lay}, (∀ L ∈ Ls, L.ok = true) → 1 ≤ attN Ls
  | [], _ => Nat.le_refl _
  | L :: Ls, h => by
    have h1 := Lay.n_pos (h L List.mem_cons_self)
    have h2 := attN_pos (Ls := Ls) fun M hM => h M (List.mem_cons_of_mem _ hM)
    exact Nat.mul_le_mul h1 h2
theorem Lay.waits_n {L : Lay} (h : L.ok = true) : L.waits.length + 1 = L.n := by
  have := waits_len h
  have := Lay.n_cnt h
  omega
theorem Lay.wt_get {L : Lay} {j : Nat} (h : L.ok = true) (h1 : 1 ≤ j) (h2 : j < L.n) : L.waits[j - 1]? = some (L.wt j) := by
  have hl := Lay.waits_n h
  have hj : j - 1 < L.waits.length := by omega
  rw [List.getElem?_eq_getElem hj]
  cases L with
  | pol ns =>
    show some (ns[j - 1]) = some (ns.getD (j - 1) 0)
    have hj' : j - 1 < ns.length := hj
    rw [List.getD_eq_getElem?_getD, List.getElem?_eq_getElem hj']
    rfl
  | con w n =>
    have hj' : j - 1 < (List.replicate (n - 1).toNat w).length := hj
    exact congrArg some (List.getElem_replicate hj')
theorem Lay.pt_succ {L : Lay} {j : Nat} (h : L.ok = true) (h2 : j + 1 < L.n) : L.pt (j + 1) = L.pt j + L.wt (j + 1) := by
  cases L with
  | pol ns =>
    have hl : ns.length + 1 = (Lay.pol ns).n := Lay.waits_n h
    have hj : j < ns.length := by omega
    show (ns.take (j + 1)).sum = (ns.take j).sum + ns.getD (j + 1 - 1) 0
    rw [List.take_add_one, List.sum_append, Nat.add_sub_cancel, List.getD_eq_getElem?_getD, List.getElem?_eq_getElem hj]
    simp
  | con w n =>
    show w * ((j + 1 : Nat) : Int) = w * (j : Int) + w
    push_cast
    rw [Int.mul_add, Int.mul_one]
theorem Lay.pt_zero (L : Lay) : L.pt 0 = 0 := by
  cases L with
  | pol ns => rfl
  | con w n =>
    show w * ((0 : Nat) : Int) = 0
    simp
theorem flat_wait : ∀ (Ls : List Lay), (∀ L ∈ Ls, L.ok = true) → ∀ j, j < (flatL Ls).length → (flatL Ls)[j]? = some (waitN Ls (j + 1))
  | [], _, j, h => by cases h
  | L :: Ls, h, j, hj => by
    have hL := h L List.mem_cons_self
    have hM : ∀ M ∈ Ls, M.ok = true := fun M hM => h M (List.mem_cons_of_mem _ hM)
    have hn := Lay.waits_n hL
    have hp := Lay.n_pos hL
    rw [flatL_cons h] at hj ⊢
    rw [nestL_get _ _ _ hj, hn]
    have hlen := nestL_len L.waits (flatL Ls)
    rw [hn] at hlen
    have hd := Nat.div_add_mod (j + 1) L.n
    show _ = some (if (j + 1) % L.n = 0 then waitN Ls ((j + 1) / L.n) else L.wt ((j + 1) % L.n))
    by_cases h0 : (j + 1) % L.n = 0
    · rw [if_pos h0, if_pos h0]
      have h1 : 1 ≤ (j + 1) / L.n := by
        rcases Nat.eq_zero_or_pos ((j + 1) / L.n) with z | z
        · rw [z, h0] at hd
          omega
        · exact z
      have h2 : (j + 1) / L.n < (flatL Ls).length + 1 := by
        rw [Nat.div_lt_iff_lt_mul (by omega), Nat.mul_comm, ← hlen]
        omega
      rw [flat_wait Ls hM _ (by omega), Nat.sub_add_cancel h1]
    · rw [if_neg h0, if_neg h0]
      exact Lay.wt_get hL (by omega) (Nat.mod_lt _ (by omega))
theorem flat_attN {Ls : List Lay} (h : ∀ L ∈ Ls, L.ok = true) : (flatL Ls).length + 1 = attN Ls := by
  have h1 := flatL_len _ Ls rfl h
  have h2 := attN_of h
  omega
/-- the next number by its digits -/
theorem step_mod {n i : Nat} (hn : 1 ≤ n) (h : (i + 1) % n ≠ 0) : (i + 1) / n = i / n ∧ (i + 1) % n = i % n + 1 ∧ i % n + 1 < n := by
  have h1 := Nat.div_add_mod i n
  have h2 := Nat.mod_lt i (show n > 0 by omega)
  have hlt : i % n + 1 < n := by
    apply Nat.lt_of_le_of_ne (by omega)
    intro e
    apply h
    have e2 : i + 1 = n * (i / n + 1) := by rw [Nat.mul_add, Nat.mul_one]; omega
    rw [e2]
    exact Nat.mul_mod_right _ _
  have e : i + 1 = (i % n + 1) + n * (i / n) := by omega
  refine ⟨?_, ?_, hlt⟩
  · rw [e, Nat.add_mul_div_left _ _ (by omega), Nat.div_eq_of_lt hlt, Nat.zero_add]
  · rw [e, Nat.add_mul_mod_self_left, Nat.mod_eq_of_lt hlt]
theorem step_div {n i : Nat} (hn : 1 ≤ n) (h : (i + 1) % n = 0) : (i + 1) / n = i / n + 1 ∧ i % n = n - 1 := by
  have h1 := Nat.div_add_mod i n
  have h2 := Nat.mod_lt i (show n > 0 by omega)
  have h3 := Nat.div_add_mod (i + 1) n
  rw [h] at h3
  have e : i % n = n - 1 := by
    by_cases c : i % n + 1 < n
    · exfalso
      have e : i + 1 = (i % n + 1) + n * (i / n) := by omega
      rw [e, Nat.add_mul_mod_self_left, Nat.mod_eq_of_lt c] at h
      omega
    · omega
  refine ⟨?_, e⟩
  have e2 : i + 1 = n * (i / n + 1) := by rw [Nat.mul_add, Nat.mul_one]; omega
  rw [e2, Nat.mul_div_cancel_left _ (by omega)]
theorem time_succ : ∀ {Ls : List Lay} {i : Nat}, (∀ L ∈ Ls, L.ok = true) → i + 1 < attN Ls → timeN Ls (i + 1) = timeN Ls i + waitN Ls (i + 1)
  | [], i, _, h => by
    have : i + 1 < 1 := h
    omega
  | L :: Ls, i, h, hi => by
    have hL := h L List.mem_cons_self
    have hM : ∀ M ∈ Ls, M.ok = true := fun M hM => h M (List.mem_cons_of_mem _ hM)
    have hp := Lay.n_pos hL
    show ((((i + 1) / L.n : Nat) : Int)) * L.pt (L.n - 1) + L.pt ((i + 1) % L.n) + timeN Ls ((i + 1) / L.n) = ((i / L.n : Nat) : Int) * L.pt (L.n - 1) + L.pt (i % L.n) + timeN Ls (i / L.n) + (if (i + 1) % L.n = 0 then waitN Ls ((i + 1) / L.n) else L.wt ((i + 1) % L.n))
    by_cases h0 : (i + 1) % L.n = 0
    · obtain ⟨e1, e2⟩ := step_div hp h0
      have hi' : i / L.n + 1 < attN Ls := by
        rw [← e1, Nat.div_lt_iff_lt_mul (by omega), Nat.mul_comm]
        exact hi
      rw [if_pos h0, h0, e1, e2, Lay.pt_zero, time_succ hM hi']
      push_cast
      rw [Int.add_mul, Int.one_mul]
      omega
    · obtain ⟨e1, e2, e3⟩ := step_mod hp h0
      rw [if_neg h0, e1, e2, Lay.pt_succ hL e3]
      omega
theorem time_zero : ∀ Ls : List Lay, timeN Ls 0 = 0
  | [] => rfl
  | L :: Ls => by
    show (((0 / L.n : Nat) : Int)) * L.pt (L.n - 1) + L.pt (0 % L.n) + timeN Ls (0 / L.n) = 0
    rw [Nat.zero_div, Nat.zero_mod, Lay.pt_zero, time_zero Ls]
    simp
theorem time_take {Ls : List Lay} (h : ∀ L ∈ Ls, L.ok = true) : ∀ i, i < attN Ls → timeN Ls i = ((flatL Ls).take i).sum
  | 0, _ => by
    rw [time_zero]
    rfl
  | i + 1, hi => by
    have hl := flat_attN h
    rw [time_succ h hi, time_take h i (by omega), List.take_add_one, flat_wait Ls h i (by omega), List.sum_append]
    simp
/-- a layer whose numbers are small -/
def Lay.fair (L : Lay) : Prop := L.ok = true ∧ L.cnt < 2 ^ 100 ∧ match L with
  | .pol ns => ns.length ≤ 20000 ∧ ∀ x ∈ ns, 0 ≤ x ∧ x < 1000000000000
  | .con w _ => 0 ≤ w ∧ w < 1000000000000
theorem Lay.nice.fair {L : Lay} (h : L.nice) : L.fair := by
  have h2 := nice_cnt h
  obtain ⟨h0, h1⟩ := h
  refine ⟨h0, h2, ?_⟩
  cases L with
  | pol ns => exact ⟨by have := h1.1; omega, h1.2⟩
  | con w n =>
    rw [Lay.ok_con, Bool.and_eq_true] at h0
    exact ⟨of_decide_eq_true h0.1, h1.1⟩
theorem sum_bound : ∀ {ns : List Int}, (∀ x ∈ ns, 0 ≤ x ∧ x < 1000000000000) → 0 ≤ ns.sum ∧ ns.sum ≤ (ns.length : Int) * 1000000000000
  | [], _ => by simp
  | x :: ns, h => by
    have h1 := sum_bound (ns := ns) fun y hy => h y (List.mem_cons_of_mem _ hy)
    have h2 := h x List.mem_cons_self
    rw [List.sum_cons, List.length_cons]
    push_cast
    rw [Int.add_mul, Int.one_mul]
    omega
theorem Lay.pt_bound {L : Lay} {j : Nat} (h : L.fair) (hj : j < L.n) : 0 ≤ L.pt j ∧ (L.pt j).natAbs < 2 ^ 150 := by
  obtain ⟨h0, h1, h2⟩ := h
  cases L with
  | pol ns =>
    obtain ⟨h3, h4⟩ := h2
    obtain ⟨b1, b2⟩ := sum_bound (ns := ns.take j) fun x hx => h4 x (List.mem_of_mem_take hx)
    have b3 : ((ns.take j).length : Int) ≤ 20000 := by
      have := List.length_take_le' j ns
      omega
    have b4 : ((ns.take j).length : Int) * 1000000000000 ≤ 20000 * 1000000000000 := Int.mul_le_mul_of_nonneg_right b3 (by decide)
    refine ⟨b1, ?_⟩
    show ((ns.take j).sum).natAbs < 2 ^ 150
    omega
  | con w n =>
    obtain ⟨w0, w1⟩ := h2
    have hc : (Lay.con w n).cnt = n := rfl
    have hn := Lay.n_cnt h0
    rw [hc] at h1 hn
    refine ⟨Int.mul_nonneg w0 (by omega), ?_⟩
    show (w * (j : Int)).natAbs < 2 ^ 150
    have := wide_lt (i := w) (j := (j : Int)) (a := 40) (b := 100) (by omega) (by omega)
    exact Nat.lt_of_lt_of_le this (Nat.pow_le_pow_right (by decide) (by decide))
theorem noPy {i j : Int} {b : Nat} (h : 0 < j) (hb : j.natAbs < 2 ^ b) (h0 : 0 < b) (h9 : b ≤ 9000) : CDivP i j := ⟨h, PyProof.noPylong_of_log2 (wide_div (i := i) h hb h0 h9).2⟩
theorem pow_ok5 {i : Int} {k : Nat} (h : i.natAbs < 2 ^ k) (h0 : 0 < k) (hk : k ≤ 1000) : CPowW i 5 := by
  refine ⟨by decide, ?_⟩
  have h1 := PySem.Flt.log2_lt_of h0 h
  have h2 : Builtin.Int.intBits i ≤ i.natAbs.log2 + 1 := by
    unfold Builtin.Int.intBits
    split <;> omega
  omega
theorem nice_waits {L : Lay} (h : L.nice) : ∀ x ∈ L.waits, 0 ≤ x ∧ x < 1000000000000 := fun x hx => by
  obtain ⟨h0, h1⟩ := h
  cases L with
  | pol ns => exact h1.2 x hx
  | con w n =>
    rw [Lay.ok_con, Bool.and_eq_true] at h0
    have e := (List.mem_replicate.mp (show x ∈ List.replicate (n - 1).toNat w from hx)).2
    rw [e]
    exact ⟨of_decide_eq_true h0.1, h1.1⟩
theorem flat_nice : ∀ Ls : List Lay, (∀ L ∈ Ls, L.nice) → ∀ x ∈ flatL Ls, 0 ≤ x ∧ x < 1000000000000
  | [], _, x, hx => by cases hx
  | L :: Ls, h, x, hx => by
    rw [flatL_cons fun M hM => (h M hM).1] at hx
    rcases nestL_mem hx with z | z
    · exact nice_waits (h L List.mem_cons_self) x z
    · exact flat_nice Ls (fun M hM => h M (List.mem_cons_of_mem _ hM)) x z
theorem pol_fair {ws : List Int} (h : ∀ x ∈ ws, 0 ≤ x ∧ x < 1000000000000) (hl : ws.length ≤ 20000) : (Lay.pol ws).fair :=
  ⟨pol_ok h, by show (ws.length : Int) + 1 < 2 ^ 100; omega, hl, h⟩
theorem one_wait {ws : List Int} {i : Nat} (h1 : 1 ≤ i) (h2 : i < ws.length + 1) : waitN [.pol ws] i = ws.getD (i - 1) 0 := by
  have hn : (Lay.pol ws).n = ws.length + 1 := by
    show ((ws.length : Int) + 1).toNat = _
    omega
  show (if i % (Lay.pol ws).n = 0 then _ else (Lay.pol ws).wt (i % (Lay.pol ws).n)) = _
  rw [hn, Nat.mod_eq_of_lt h2, if_neg (by omega)]
  rfl
theorem one_time {ws : List Int} {i : Nat} (h2 : i < ws.length + 1) : timeN [.pol ws] i = (ws.take i).sum := by
  have hn : (Lay.pol ws).n = ws.length + 1 := by
    show ((ws.length : Int) + 1).toNat = _
    omega
  show ((i / (Lay.pol ws).n : Nat) : Int) * _ + (Lay.pol ws).pt (i % (Lay.pol ws).n) + 0 = _
  rw [hn, Nat.mod_eq_of_lt h2, Nat.div_eq_of_lt h2]
  show ((0 : Nat) : Int) * _ + (ws.take i).sum + 0 = _
  simp
theorem one_att {ws : List Int} : attN [.pol ws] = ws.length + 1 := by
  show (Lay.pol ws).n * 1 = _
  rw [Nat.mul_one]
  show ((ws.length : Int) + 1).toNat = _
  omega
/-! ## the wait of an outer layer, and those beside it -/
theorem attN_app : ∀ As Bs : List Lay, attN (As ++ Bs) = attN As * attN Bs
  | [], Bs => by
    show attN Bs = 1 * attN Bs
    rw [Nat.one_mul]
  | A :: As, Bs => by
    show A.n * attN (As ++ Bs) = A.n * attN As * attN Bs
    rw [attN_app As Bs, Nat.mul_assoc]
theorem attN_dvd {A : Lay} : ∀ {As : List Lay}, A ∈ As → A.n ∣ attN As
  | [], h => nomatch h
  | B :: As, h => by
    show A.n ∣ B.n * attN As
    rcases List.mem_cons.mp h with z | z
    · rw [z]
      exact Nat.dvd_mul_right _ _
    · exact Nat.dvd_trans (attN_dvd z) (Nat.dvd_mul_left _ _)
theorem attN_ones : ∀ {As : List Lay}, (∀ A ∈ As, A.n = 1) → attN As = 1
  | [], _ => rfl
  | A :: As, h => by
    show A.n * attN As = 1
    rw [h A List.mem_cons_self, attN_ones fun B hB => h B (List.mem_cons_of_mem _ hB)]
theorem wait_ones : ∀ {As : List Lay} (Bs : List Lay) (i : Nat), (∀ A ∈ As, A.n = 1) → waitN (As ++ Bs) i = waitN Bs i
  | [], Bs, i, _ => rfl
  | A :: As, Bs, i, h => by
    show (if i % A.n = 0 then waitN (As ++ Bs) (i / A.n) else A.wt (i % A.n)) = waitN Bs i
    rw [h A List.mem_cons_self, Nat.mod_one, if_pos rfl, Nat.div_one]
    exact wait_ones Bs i fun B hB => h B (List.mem_cons_of_mem _ hB)
theorem wait_mid {L : Lay} {part : Nat} (runs : Nat) (Bs : List Lay) (h1 : 1 ≤ part) (h2 : part < L.n) : ∀ {As : List Lay}, (∀ A ∈ As, A.ok = true) → waitN (As ++ L :: Bs) (attN As * (part + L.n * runs)) = L.wt part
  | [], _ => by
    show (if (1 * (part + L.n * runs)) % L.n = 0 then waitN Bs ((1 * (part + L.n * runs)) / L.n) else L.wt ((1 * (part + L.n * runs)) % L.n)) = L.wt part
    rw [Nat.one_mul, Nat.add_mul_mod_self_left, Nat.mod_eq_of_lt h2, if_neg (by omega)]
  | A :: As, h => by
    have hA := Lay.n_pos (h A List.mem_cons_self)
    have ih := wait_mid runs Bs h1 h2 (As := As) fun B hB => h B (List.mem_cons_of_mem _ hB)
    show (if (A.n * attN As * (part + L.n * runs)) % A.n = 0 then waitN (As ++ L :: Bs) ((A.n * attN As * (part + L.n * runs)) / A.n) else A.wt ((A.n * attN As * (part + L.n * runs)) % A.n)) = L.wt part
    rw [Nat.mul_assoc, Nat.mul_mod_right, if_pos rfl, Nat.mul_div_cancel_left _ (by omega)]
    exact ih
theorem wait_after {A : Lay} (Bs : List Lay) {N : Nat} (h : A.n ∣ N) (h1 : 1 < A.n) : waitN (A :: Bs) (N + 1) = A.wt 1 := by
  obtain ⟨q, rfl⟩ := h
  show (if (A.n * q + 1) % A.n = 0 then _ else A.wt ((A.n * q + 1) % A.n)) = _
  rw [Nat.mul_add_mod, Nat.mod_eq_of_lt h1, if_neg (by decide)]
theorem wait_before {A : Lay} (Bs : List Lay) {N : Nat} (h : A.n ∣ N) (h0 : 1 ≤ N) (h1 : 1 < A.n) : waitN (A :: Bs) (N - 1) = A.wt (A.n - 1) := by
  obtain ⟨q, rfl⟩ := h
  obtain ⟨k, rfl⟩ : ∃ k, q = k + 1 := ⟨q - 1, by
    cases q with
    | zero => rw [Nat.mul_zero] at h0; omega
    | succ k => rfl⟩
  have e : A.n * (k + 1) - 1 = A.n * k + (A.n - 1) := by rw [Nat.mul_add, Nat.mul_one]; omega
  show (if (A.n * (k + 1) - 1) % A.n = 0 then _ else A.wt ((A.n * (k + 1) - 1) % A.n)) = _
  rw [e, Nat.mul_add_mod, Nat.mod_eq_of_lt (by omega), if_neg (by omega)]
theorem big8 {Ls : List Lay} {m : Nat} (h : ∀ L ∈ Ls, L.ok = true ∧ L.cnt < 2 ^ 100) (hl : Ls.length ≤ m) : 0 < attOf Ls ∧ (attOf Ls).natAbs < 2 ^ (100 * m + 1) := by
  obtain ⟨h1, h2⟩ := attOf_lt _ Ls rfl h
  exact ⟨h1, Nat.lt_of_lt_of_le h2 (Nat.pow_le_pow_right (by decide) (by omega))⟩
theorem ne_val {x y : V} {A B : Prop} (h : x = y) (b : B) : if (!decide (x = y)) = true then A else B := by
  rw [h, decide_eq_true rfl]
  exact iteF b
theorem lay_low {a d : Addr} {G : Hp} {v : V} {L : Lay} (h : LayAt (hid a d G) v L) : LayAt G v L := by
  cases L with
  | pol ns => obtain ⟨y, e, z⟩ := h; exact ⟨y, e, (hid_get z).1⟩
  | con c n => obtain ⟨y, e, z⟩ := h; exact ⟨y, e, (hid_get z).1⟩
/-! ## numbers by their parts -/
def nI (ps : List Nat) : List Int := ps.map fun x : Nat => (x : Int)
inductive Pts : List Lay → List Nat → Prop
  | nil : Pts [] []
  | cons {L : Lay} {p : Nat} {Ls : List Lay} {ps : List Nat} (h : p < L.n) (t : Pts Ls ps) : Pts (L :: Ls) (p :: ps)
theorem Pts.len {Ls : List Lay} {ps : List Nat} (h : Pts Ls ps) : ps.length = Ls.length := by
  induction h with
  | nil => rfl
  | cons _ _ ih => rw [List.length_cons, List.length_cons, ih]
theorem Pts.get {Ls : List Lay} {ps : List Nat} (h : Pts Ls ps) : ∀ {i : Nat} {L : Lay}, Ls[i]? = some L → ∃ p, ps[i]? = some p ∧ p < L.n := by
  induction h with
  | nil => intro i L h; cases h
  | cons hp _ ih =>
    intro i L h
    cases i with
    | zero => cases h; exact ⟨_, rfl, hp⟩
    | succ i => exact ih h
theorem Pts.snoc {Ls : List Lay} {ps : List Nat} (h : Pts Ls ps) {L : Lay} {p : Nat} (hp : p < L.n) : Pts (Ls ++ [L]) (ps ++ [p]) := by
  induction h with
  | nil => exact .cons hp .nil
  | cons hq _ ih => exact .cons hq ih
theorem Pts.take {Ls : List Lay} {ps : List Nat} (h : Pts Ls ps) : ∀ i, Pts (Ls.take i) (ps.take i) := by
  induction h with
  | nil => intro i; rw [List.take_nil, List.take_nil]; exact .nil
  | cons hq _ ih =>
    intro i
    cases i with
    | zero => exact .nil
    | succ i => exact .cons hq (ih i)
theorem Pts.last : ∀ {Ls : List Lay}, (∀ L ∈ Ls, L.ok = true) → Pts Ls (Ls.map fun L => L.n - 1)
  | [], _ => .nil
  | L :: Ls, h => .cons (by have := Lay.n_pos (h L List.mem_cons_self); show L.n - 1 < L.n; omega) (Pts.last fun M hM => h M (List.mem_cons_of_mem _ hM))
def numL : List Lay → List Nat → Nat
  | L :: Ls, p :: ps => p + L.n * numL Ls ps
  | _, _ => 0
theorem numL_snoc {Ls : List Lay} {ps : List Nat} (h : Pts Ls ps) (L : Lay) (p : Nat) : numL (Ls ++ [L]) (ps ++ [p]) = numL Ls ps + p * attN Ls := by
  induction h with
  | nil =>
    show p + L.n * 0 = 0 + p * 1
    omega
  | cons hq _ ih =>
    rename_i M q Ms qs _
    show q + M.n * numL (Ms ++ [L]) (qs ++ [p]) = q + M.n * numL Ms qs + p * (M.n * attN Ms)
    rw [ih, Nat.mul_add, Nat.add_assoc, Nat.mul_left_comm]
theorem numL_lt {Ls : List Lay} {ps : List Nat} (h : Pts Ls ps) : numL Ls ps < attN Ls := by
  induction h with
  | nil => exact Nat.zero_lt_one
  | cons hq _ ih =>
    rename_i M q Ms qs _
    show q + M.n * numL Ms qs < M.n * attN Ms
    have : M.n * (numL Ms qs + 1) ≤ M.n * attN Ms := Nat.mul_le_mul_left _ ih
    rw [Nat.mul_add, Nat.mul_one] at this
    omega
theorem numL_last {Ls : List Lay} {ps : List Nat} (h : Pts Ls ps) (e : numL Ls ps + 1 = attN Ls) : ps = Ls.map fun L => L.n - 1 := by
  induction h with
  | nil => rfl
  | cons hq t ih =>
    rename_i M q Ms qs
    have e : q + M.n * numL Ms qs + 1 = M.n * attN Ms := e
    have lt := numL_lt t
    have e2 : numL Ms qs + 1 = attN Ms := by
      by_cases c : numL Ms qs + 1 = attN Ms
      · exact c
      · have : M.n * (numL Ms qs + 2) ≤ M.n * attN Ms := Nat.mul_le_mul_left _ (by omega)
        rw [Nat.mul_add] at this
        omega
    rw [← e2, Nat.mul_add, Nat.mul_one] at e
    rw [List.map_cons, ← ih e2, show q = M.n - 1 by omega]
theorem div_mod_add {n r q : Nat} (h : r < n) : (r + n * q) / n = q ∧ (r + n * q) % n = r := by
  refine ⟨?_, ?_⟩
  · rw [Nat.add_mul_div_left _ _ (by omega), Nat.div_eq_of_lt h, Nat.zero_add]
  · rw [Nat.add_mul_mod_self_left, Nat.mod_eq_of_lt h]
theorem time_cons (L : Lay) (Ls : List Lay) {r q : Nat} (h : r < L.n) : timeN (L :: Ls) (r + L.n * q) = (q : Int) * L.pt (L.n - 1) + L.pt r + timeN Ls q := by
  obtain ⟨e1, e2⟩ := div_mod_add (q := q) h
  show (((r + L.n * q) / L.n : Nat) : Int) * L.pt (L.n - 1) + L.pt ((r + L.n * q) % L.n) + timeN Ls ((r + L.n * q) / L.n) = _
  rw [e1, e2]
/-- the whole time of a nesting -/
def durN (Ls : List Lay) : Int := timeN Ls (attN Ls - 1)
theorem dur_cons {L : Lay} {Ls : List Lay} (h : ∀ M ∈ L :: Ls, M.ok = true) : durN (L :: Ls) = (attN Ls : Int) * L.pt (L.n - 1) + durN Ls := by
  have h1 := Lay.n_pos (h L List.mem_cons_self)
  have h2 := attN_pos (Ls := Ls) fun M hM => h M (List.mem_cons_of_mem _ hM)
  unfold durN
  have e : attN (L :: Ls) - 1 = (L.n - 1) + L.n * (attN Ls - 1) := by
    show L.n * attN Ls - 1 = _
    rw [Nat.mul_sub, Nat.mul_one]
    have : L.n * 1 ≤ L.n * attN Ls := Nat.mul_le_mul_left _ h2
    omega
  rw [e, time_cons L Ls (by omega)]
  have : ((attN Ls - 1 : Nat) : Int) = (attN Ls : Int) - 1 := by omega
  rw [this, Int.sub_mul, Int.one_mul]
  omega
theorem time_snoc {L : Lay} {part : Nat} (hp : part < L.n) : ∀ {As : List Lay} {num : Nat}, (∀ A ∈ As, A.ok = true) → num < attN As → timeN (As ++ [L]) (num + part * attN As) = timeN As num + (part : Int) * durN As + L.pt part
  | [], num, _, h => by
    have e : num = 0 := by have : num < 1 := h; omega
    subst e
    have := time_cons L [] (r := part) (q := 0) hp
    rw [Nat.mul_zero, Nat.add_zero] at this
    show timeN [L] (0 + part * 1) = 0 + (part : Int) * 0 + L.pt part
    rw [Nat.mul_one, Nat.zero_add, this]
    show ((0 : Nat) : Int) * _ + L.pt part + 0 = _
    simp
  | A :: As, num, h, hn => by
    have hA := Lay.n_pos (h A List.mem_cons_self)
    have hM : ∀ M ∈ As, M.ok = true := fun M hM => h M (List.mem_cons_of_mem _ hM)
    have hdm := Nat.div_add_mod num A.n
    have hml := Nat.mod_lt num (show A.n > 0 by omega)
    have hq : num / A.n < attN As := by
      rw [Nat.div_lt_iff_lt_mul (by omega), Nat.mul_comm]
      exact hn
    have e1 : num + part * attN (A :: As) = num % A.n + A.n * (num / A.n + part * attN As) := by
      show num + part * (A.n * attN As) = _
      rw [Nat.mul_add, Nat.mul_left_comm]
      omega
    have e2 : timeN (A :: As) num = ((num / A.n : Nat) : Int) * A.pt (A.n - 1) + A.pt (num % A.n) + timeN As (num / A.n) := rfl
    have ih := time_snoc hp (As := As) (num := num / A.n) hM hq
    rw [e1, e2, dur_cons h]
    show timeN (A :: (As ++ [L])) _ = _
    rw [time_cons A _ hml, ih]
    push_cast
    rw [Int.add_mul, Int.mul_add, Int.mul_assoc]
    omega
theorem dur_snoc {L : Lay} {As : List Lay} (hL : L.ok = true) (h : ∀ A ∈ As, A.ok = true) : durN (As ++ [L]) = L.cnt * durN As + L.pt (L.n - 1) := by
  have h1 := Lay.n_pos hL
  have h2 := attN_pos h
  have h3 := Lay.n_cnt hL
  have e : attN (As ++ [L]) - 1 = (attN As - 1) + (L.n - 1) * attN As := by
    rw [attN_app]
    show attN As * (L.n * 1) - 1 = _
    rw [Nat.mul_one, Nat.sub_mul, Nat.one_mul, Nat.mul_comm]
    have : 1 * attN As ≤ L.n * attN As := Nat.mul_le_mul_right _ h1
    omega
  have := time_snoc (L := L) (part := L.n - 1) (by omega) (As := As) (num := attN As - 1) h (by omega)
  unfold durN
  rw [e, this]
  have e2 : ((L.n - 1 : Nat) : Int) = L.cnt - 1 := by omega
  rw [e2, Int.sub_mul, Int.one_mul]
  unfold durN
  omega
theorem wt_bound {L : Lay} (h : L.fair) {j : Nat} (h1 : 1 ≤ j) (h2 : j < L.n) : 0 ≤ L.wt j ∧ L.wt j < 1000000000000 := by
  have g := Lay.wt_get h.1 h1 h2
  obtain ⟨h0, _, h3⟩ := h
  cases L with
  | pol ns => exact h3.2 _ (List.mem_of_getElem? g)
  | con w n => exact h3
theorem wait_bound : ∀ {Ls : List Lay} {i : Nat}, (∀ L ∈ Ls, L.fair) → 1 ≤ i → i < attN Ls → 0 ≤ waitN Ls i ∧ waitN Ls i < 1000000000000
  | [], i, _, h1, h2 => by
    have : i < 1 := h2
    omega
  | L :: Ls, i, h, h1, h2 => by
    have hL := h L List.mem_cons_self
    have hp := Lay.n_pos hL.1
    have hdm := Nat.div_add_mod i L.n
    have hml := Nat.mod_lt i (show L.n > 0 by omega)
    show 0 ≤ (if i % L.n = 0 then waitN Ls (i / L.n) else L.wt (i % L.n)) ∧ (if i % L.n = 0 then waitN Ls (i / L.n) else L.wt (i % L.n)) < 1000000000000
    by_cases c : i % L.n = 0
    · rw [if_pos c]
      refine wait_bound (fun M hM => h M (List.mem_cons_of_mem _ hM)) ?_ ?_
      · rcases Nat.eq_zero_or_pos (i / L.n) with z | z
        · rw [z, c] at hdm
          omega
        · exact z
      · rw [Nat.div_lt_iff_lt_mul (by omega), Nat.mul_comm]
        exact h2
    · rw [if_neg c]
      exact wt_bound hL (by omega) hml
theorem time_le {Ls : List Lay} (h : ∀ L ∈ Ls, L.fair) : ∀ i, i < attN Ls → 0 ≤ timeN Ls i ∧ timeN Ls i ≤ (i : Int) * 1000000000000
  | 0, _ => by
    rw [time_zero]
    simp
  | i + 1, hi => by
    have h1 := time_le h i (by omega)
    have h2 := wait_bound (i := i + 1) h (by omega) hi
    rw [time_succ (fun L hL => (h L hL).1) hi]
    push_cast
    rw [Int.add_mul, Int.one_mul]
    omega
theorem time_big {Ls : List Lay} {m i : Nat} (h : ∀ L ∈ Ls, L.fair) (hl : Ls.length ≤ m) (hi : i < attN Ls) : 0 ≤ timeN Ls i ∧ (timeN Ls i).natAbs < 2 ^ (100 * m + 1 + 40) := by
  obtain ⟨h1, h2⟩ := time_le h i hi
  refine ⟨h1, ?_⟩
  have hb := (big8 (m := m) (fun L hL => ⟨(h L hL).1, (h L hL).2.1⟩) hl).2
  have ha := attN_of (Ls := Ls) fun L hL => (h L hL).1
  have h3 : ((i : Int)).natAbs < 2 ^ (100 * m + 1) := Nat.lt_of_le_of_lt (by omega) hb
  have h4 := wide_lt (i := (i : Int)) (j := 1000000000000) (a := 100 * m + 1) (b := 40) h3 (by decide)
  exact Nat.lt_of_le_of_lt (by omega) h4
/-- a bound of a draw -/
def Lim (x : Int) : Prop := 0 < x ∧ x.natAbs.log2 < 9000
theorem lim {x : Int} (h0 : 0 < x) (h : x < 2 ^ 100) : Lim x := ⟨h0, by
  have := PySem.Flt.log2_lt_of (k := 100) (by decide) (show x.natAbs < 2 ^ 100 by omega)
  omega⟩
theorem limB {x : Int} {b : Nat} (h0 : 0 < x) (h : x.natAbs < 2 ^ b) (hb : 0 < b) (h9 : b ≤ 9000) : Lim x := ⟨h0, by
  have := PySem.Flt.log2_lt_of hb h
  omega⟩
theorem cat_emod (i n : Nat) : (i : Int) % (n : Int) = ((i % n : Nat) : Int) := (Int.natCast_emod i n).symm
theorem cat_ediv (i n : Nat) : (i : Int) / (n : Int) = ((i / n : Nat) : Int) := (Int.natCast_ediv i n).symm
end Rn
namespace Rn
open PySem PySem.Spec PyProof.Rows L2
/-! ## the first attempt from a time on -/
def First (Ls : List Lay) (t : Int) (r : Nat) : Prop := r < attN Ls ∧ t ≤ timeN Ls r ∧ (0 < r → timeN Ls (r - 1) < t)
theorem first_nil {t : Int} (h : t ≤ 0) : First [] t 0 := ⟨Nat.zero_lt_one, h, fun z => absurd z (Nat.lt_irrefl 0)⟩
/-- the first run of a layer that does not end before t, each run lasting w -/
def RunAt (L : Lay) (w t : Int) (p : Nat) : Prop := p < L.n ∧ t ≤ (p : Int) * w + L.pt p + w ∧ (0 < p → ((p - 1 : Nat) : Int) * w + L.pt (p - 1) + w < t)
theorem first_snoc {L : Lay} {As : List Lay} {t : Int} {p r : Nat} (h : ∀ A ∈ As, A.ok = true) (hp : RunAt L (durN As) t p) (hr : First As (t - (p : Int) * durN As - L.pt p) r) : First (As ++ [L]) t (p * attN As + r) := by
  obtain ⟨p1, p2, p3⟩ := hp
  obtain ⟨r1, r2, r3⟩ := hr
  have ap := attN_pos h
  have e : timeN (As ++ [L]) (p * attN As + r) = timeN As r + (p : Int) * durN As + L.pt p := by
    rw [Nat.add_comm]
    exact time_snoc p1 h r1
  refine ⟨?_, by rw [e]; omega, fun z => ?_⟩
  · rw [attN_app]
    show p * attN As + r < attN As * (L.n * 1)
    rw [Nat.mul_one, Nat.mul_comm (attN As)]
    have : (p + 1) * attN As ≤ L.n * attN As := Nat.mul_le_mul_right _ p1
    rw [Nat.add_mul, Nat.one_mul] at this
    omega
  · by_cases c : 0 < r
    · have r4 := r3 c
      have e2 : p * attN As + r - 1 = (r - 1) + p * attN As := by omega
      rw [e2, time_snoc p1 h (by omega)]
      omega
    · have r0 : r = 0 := by omega
      subst r0
      have pp : 0 < p := by
        rcases Nat.eq_zero_or_pos p with z2 | z2
        · rw [z2, Nat.zero_mul] at z
          omega
        · exact z2
      have p4 := p3 pp
      have e2 : p * attN As + 0 - 1 = (attN As - 1) + (p - 1) * attN As := by
        rw [Nat.sub_mul, Nat.one_mul]
        have : 1 * attN As ≤ p * attN As := Nat.mul_le_mul_right _ pp
        omega
      rw [e2, time_snoc (by omega) h (by omega)]
      have : durN As = timeN As (attN As - 1) := rfl
      omega
theorem time_mono {Ls : List Lay} (h : ∀ L ∈ Ls, L.fair) : ∀ {i j : Nat}, i ≤ j → j < attN Ls → timeN Ls i ≤ timeN Ls j
  | i, 0, h1, _ => by
    have : i = 0 := by omega
    subst this
    exact Int.le_refl _
  | i, j + 1, h1, h2 => by
    by_cases c : i = j + 1
    · rw [c]
      exact Int.le_refl _
    · have h3 := time_mono h (i := i) (j := j) (by omega) (by omega)
      have h4 := wait_bound (i := j + 1) h (by omega) h2
      rw [time_succ (fun L hL => (h L hL).1) h2]
      omega
theorem dur_nonneg {Ls : List Lay} (h : ∀ L ∈ Ls, L.fair) : 0 ≤ durN Ls := (time_le h _ (by have := attN_pos (Ls := Ls) fun L hL => (h L hL).1; omega)).1
def sumsL (ws : List Int) : List Int := (List.range (ws.length + 1)).map fun i => (ws.take i).sum
theorem sumsL_snoc (ws : List Int) (x : Int) : sumsL (ws ++ [x]) = sumsL ws ++ [ws.sum + x] := by
  unfold sumsL
  rw [List.length_append, List.length_singleton, List.range_succ, List.map_append]
  congr 1
  · refine List.map_congr_left fun i hi => ?_
    have := List.mem_range.mp hi
    rw [List.take_append_of_le_length (by omega)]
  · rw [List.map_singleton, List.take_of_length_le (by rw [List.length_append]; exact Nat.le_refl _), List.sum_append]
    simp
theorem sumsL_len (ws : List Int) : (sumsL ws).length = ws.length + 1 := by
  unfold sumsL
  rw [List.length_map, List.length_range]
theorem sumsL_get (ws : List Int) {i : Nat} (h : i ≤ ws.length) : (sumsL ws)[i]? = some (ws.take i).sum := by
  unfold sumsL
  rw [List.getElem?_map, List.getElem?_range (by omega)]
  rfl
theorem sumsL_last (ws : List Int) : ∃ r, sumsL ws = r ++ [ws.sum] := by
  unfold sumsL
  rw [List.range_succ, List.map_append]
  exact ⟨_, by rw [List.map_singleton, List.take_length]⟩
end Rn


namespace Rn
open PySem PySem.Spec PyProof.Rows L2
/-! ## the text -/
def topS (i : Nat) : Stmt := PySem.Challenge.pw_retrynest_k21_first_attempts_of_long_nes.main.body.getD i (.Pass ⟨0, 0, 0, 0⟩)
abbrev s_first_negative : Stmt := topS 5
abbrev s_is_valid_layer : Stmt := topS 6
abbrev s_check_nesting : Stmt := topS 7
abbrev s_layer_attempts : Stmt := topS 9
abbrev s_time_in_layer : Stmt := topS 11
abbrev s_duration : Stmt := topS 12
abbrev s_durations : Stmt := topS 13
abbrev s_first_run_until : Stmt := topS 14
abbrev s_first_attempt_from : Stmt := topS 15
abbrev s_law_pool : Stmt := topS 17
abbrev s_law_draw : Stmt := topS 18
abbrev s_law_size : Stmt := topS 19
abbrev s_law_wait : Stmt := topS 20
abbrev s_law_tier : Stmt := topS 21
abbrev s_law_large : Stmt := topS 23
abbrev s_law_sum_in : Stmt := topS 24
abbrev s_law_number : Stmt := topS 25
abbrev s_law_time : Stmt := topS 26
abbrev s_law_parts : Stmt := topS 27
abbrev s_law_split : Stmt := topS 28
abbrev s_law_first_right : Stmt := topS 29
abbrev s_law_right : Stmt := topS 30
abbrev s_law : Stmt := topS 31
theorem sc_first_negative : FnScope ["waits", "index", "wait"] ["waits"] (defScope s_first_negative) := ⟨rfl, rfl, rfl, by decide +kernel, rfl, by decide +kernel, by decide +kernel⟩
theorem sc_is_valid_layer : FnScope ["layer", "wait", "count"] ["layer"] (defScope s_is_valid_layer) := ⟨rfl, rfl, rfl, by decide +kernel, rfl, by decide +kernel, by decide +kernel⟩
theorem sc_check_nesting : FnScope ["nesting", "index", "layer"] ["nesting"] (defScope s_check_nesting) := ⟨rfl, rfl, rfl, by decide +kernel, rfl, by decide +kernel, by decide +kernel⟩
theorem sc_layer_attempts : FnScope ["layer"] ["layer"] (defScope s_layer_attempts) := ⟨rfl, rfl, rfl, by decide +kernel, rfl, by decide +kernel, by decide +kernel⟩
theorem sc_time_in_layer : FnScope ["layer", "attempt"] ["layer", "attempt"] (defScope s_time_in_layer) := ⟨rfl, rfl, rfl, by decide +kernel, rfl, by decide +kernel, by decide +kernel⟩
theorem sc_duration : FnScope ["layer"] ["layer"] (defScope s_duration) := ⟨rfl, rfl, rfl, by decide +kernel, rfl, by decide +kernel, by decide +kernel⟩
theorem sc_durations : FnScope ["nesting", "found", "layer"] ["nesting"] (defScope s_durations) := ⟨rfl, rfl, rfl, by decide +kernel, rfl, by decide +kernel, by decide +kernel⟩
theorem sc_first_run_until : FnScope ["layer", "within", "time", "late", "place", "end"] ["layer", "within", "time"] (defScope s_first_run_until) := ⟨rfl, rfl, rfl, by decide +kernel, rfl, by decide +kernel, by decide +kernel⟩
theorem sc_first_attempt_from : FnScope ["nesting", "time", "lengths", "attempt", "left", "layer", "within", "place"] ["nesting", "time"] (defScope s_first_attempt_from) := ⟨rfl, rfl, rfl, by decide +kernel, rfl, by decide +kernel, by decide +kernel⟩
theorem sc_law_pool : FnScope ["script", "at", "cell"] ["script", "at"] (defScope s_law_pool) := ⟨rfl, rfl, rfl, by decide +kernel, rfl, by decide +kernel, by decide +kernel⟩
theorem sc_law_draw : FnScope ["pool", "many", "drawn", "mixed"] ["pool", "many"] (defScope s_law_draw) := ⟨rfl, rfl, rfl, by decide +kernel, rfl, by decide +kernel, by decide +kernel⟩
theorem sc_law_size : FnScope ["tier"] ["tier"] (defScope s_law_size) := ⟨rfl, rfl, rfl, by decide +kernel, rfl, by decide +kernel, by decide +kernel⟩
theorem sc_law_wait : FnScope ["pool"] ["pool"] (defScope s_law_wait) := ⟨rfl, rfl, rfl, by decide +kernel, rfl, by decide +kernel, by decide +kernel⟩
theorem sc_law_tier : FnScope ["pool", "most", "kinds", "turn"] ["pool", "most"] (defScope s_law_tier) := ⟨rfl, rfl, rfl, by decide +kernel, rfl, by decide +kernel, by decide +kernel⟩
theorem sc_law_large : FnScope ["pool", "found", "turn"] ["pool"] (defScope s_law_large) := ⟨rfl, rfl, rfl, by decide +kernel, rfl, by decide +kernel, by decide +kernel⟩
theorem sc_law_sum_in : FnScope ["tier", "part"] ["tier", "part"] (defScope s_law_sum_in) := ⟨rfl, rfl, rfl, by decide +kernel, rfl, by decide +kernel, by decide +kernel⟩
theorem sc_law_number : FnScope ["layers", "parts", "number", "inside", "tier", "part"] ["layers", "parts"] (defScope s_law_number) := ⟨rfl, rfl, rfl, by decide +kernel, rfl, by decide +kernel, by decide +kernel⟩
theorem sc_law_time : FnScope ["layers", "parts", "found", "whole", "tier", "part"] ["layers", "parts"] (defScope s_law_time) := ⟨rfl, rfl, rfl, by decide +kernel, rfl, by decide +kernel, by decide +kernel⟩
theorem sc_law_parts : FnScope ["pool", "layers", "found", "tier", "size"] ["pool", "layers"] (defScope s_law_parts) := ⟨rfl, rfl, rfl, by decide +kernel, rfl, by decide +kernel, by decide +kernel⟩
theorem sc_law_split : FnScope ["layers", "number", "found", "tier", "part"] ["layers", "number"] (defScope s_law_split) := ⟨rfl, rfl, rfl, by decide +kernel, rfl, by decide +kernel, by decide +kernel⟩
theorem sc_law_first_right : FnScope ["layers", "moment", "end", "told"] ["layers", "moment", "end"] (defScope s_law_first_right) := ⟨rfl, rfl, rfl, by decide +kernel, rfl, by decide +kernel, by decide +kernel⟩
theorem sc_law_right : FnScope ["pool", "layers", "end", "far", "moment", "turn", "parts", "other", "tier"] ["pool"] (defScope s_law_right) := ⟨rfl, rfl, rfl, by decide +kernel, rfl, by decide +kernel, by decide +kernel⟩
theorem sc_law : FnScope ["script", "at", "pool", "turn"] ["script"] (defScope s_law) := ⟨rfl, rfl, rfl, by decide +kernel, rfl, by decide +kernel, by decide +kernel⟩
/-! ## what the top has written -/
structure Txt (K : PySem.W.Frag) (mg : Str → Option Value) where
  f_first_negative : Addr
  d_first_negative : FuncData
  F_first_negative : Fun K "first_negative" "first_negative" s_first_negative f_first_negative d_first_negative
  g_first_negative : mg "first_negative" = some (.ref f_first_negative)
  b_first_negative : Binds K d_first_negative ["waits"] []
  f_is_valid_layer : Addr
  d_is_valid_layer : FuncData
  F_is_valid_layer : Fun K "is_valid_layer" "is_valid_layer" s_is_valid_layer f_is_valid_layer d_is_valid_layer
  g_is_valid_layer : mg "is_valid_layer" = some (.ref f_is_valid_layer)
  b_is_valid_layer : Binds K d_is_valid_layer ["layer"] []
  f_check_nesting : Addr
  d_check_nesting : FuncData
  F_check_nesting : Fun K "check_nesting" "check_nesting" s_check_nesting f_check_nesting d_check_nesting
  g_check_nesting : mg "check_nesting" = some (.ref f_check_nesting)
  b_check_nesting : Binds K d_check_nesting ["nesting"] []
  f_layer_attempts : Addr
  d_layer_attempts : FuncData
  F_layer_attempts : Fun K "layer_attempts" "layer_attempts" s_layer_attempts f_layer_attempts d_layer_attempts
  g_layer_attempts : mg "layer_attempts" = some (.ref f_layer_attempts)
  b_layer_attempts : Binds K d_layer_attempts ["layer"] []
  f_time_in_layer : Addr
  d_time_in_layer : FuncData
  F_time_in_layer : Fun K "time_in_layer" "time_in_layer" s_time_in_layer f_time_in_layer d_time_in_layer
  g_time_in_layer : mg "time_in_layer" = some (.ref f_time_in_layer)
  b_time_in_layer : Binds K d_time_in_layer ["layer", "attempt"] []
  f_duration : Addr
  d_duration : FuncData
  F_duration : Fun K "duration" "duration" s_duration f_duration d_duration
  g_duration : mg "duration" = some (.ref f_duration)
  b_duration : Binds K d_duration ["layer"] []
  f_durations : Addr
  d_durations : FuncData
  F_durations : Fun K "durations" "durations" s_durations f_durations d_durations
  g_durations : mg "durations" = some (.ref f_durations)
  b_durations : Binds K d_durations ["nesting"] []
  f_first_run_until : Addr
  d_first_run_until : FuncData
  F_first_run_until : Fun K "first_run_until" "first_run_until" s_first_run_until f_first_run_until d_first_run_until
  g_first_run_until : mg "first_run_until" = some (.ref f_first_run_until)
  b_first_run_until : Binds K d_first_run_until ["layer", "within", "time"] []
  f_first_attempt_from : Addr
  d_first_attempt_from : FuncData
  F_first_attempt_from : Fun K "first_attempt_from" "first_attempt_from" s_first_attempt_from f_first_attempt_from d_first_attempt_from
  g_first_attempt_from : mg "first_attempt_from" = some (.ref f_first_attempt_from)
  b_first_attempt_from : Binds K d_first_attempt_from ["nesting", "time"] []
  f_law_pool : Addr
  d_law_pool : FuncData
  F_law_pool : Fun K "_law_pool" "_law_pool" s_law_pool f_law_pool d_law_pool
  g_law_pool : mg "_law_pool" = some (.ref f_law_pool)
  b_law_pool : Binds K d_law_pool ["script", "at"] []
  f_law_draw : Addr
  d_law_draw : FuncData
  F_law_draw : Fun K "_law_draw" "_law_draw" s_law_draw f_law_draw d_law_draw
  g_law_draw : mg "_law_draw" = some (.ref f_law_draw)
  b_law_draw : Binds K d_law_draw ["pool", "many"] []
  f_law_size : Addr
  d_law_size : FuncData
  F_law_size : Fun K "_law_size" "_law_size" s_law_size f_law_size d_law_size
  g_law_size : mg "_law_size" = some (.ref f_law_size)
  b_law_size : Binds K d_law_size ["tier"] []
  f_law_wait : Addr
  d_law_wait : FuncData
  F_law_wait : Fun K "_law_wait" "_law_wait" s_law_wait f_law_wait d_law_wait
  g_law_wait : mg "_law_wait" = some (.ref f_law_wait)
  b_law_wait : Binds K d_law_wait ["pool"] []
  f_law_tier : Addr
  d_law_tier : FuncData
  F_law_tier : Fun K "_law_tier" "_law_tier" s_law_tier f_law_tier d_law_tier
  g_law_tier : mg "_law_tier" = some (.ref f_law_tier)
  b_law_tier : Binds K d_law_tier ["pool", "most"] []
  f_law_large : Addr
  d_law_large : FuncData
  F_law_large : Fun K "_law_large" "_law_large" s_law_large f_law_large d_law_large
  g_law_large : mg "_law_large" = some (.ref f_law_large)
  b_law_large : Binds K d_law_large ["pool"] []
  f_law_sum_in : Addr
  d_law_sum_in : FuncData
  F_law_sum_in : Fun K "_law_sum_in" "_law_sum_in" s_law_sum_in f_law_sum_in d_law_sum_in
  g_law_sum_in : mg "_law_sum_in" = some (.ref f_law_sum_in)
  b_law_sum_in : Binds K d_law_sum_in ["tier", "part"] []
  f_law_number : Addr
  d_law_number : FuncData
  F_law_number : Fun K "_law_number" "_law_number" s_law_number f_law_number d_law_number
  g_law_number : mg "_law_number" = some (.ref f_law_number)
  b_law_number : Binds K d_law_number ["layers", "parts"] []
  f_law_time : Addr
  d_law_time : FuncData
  F_law_time : Fun K "_law_time" "_law_time" s_law_time f_law_time d_law_time
  g_law_time : mg "_law_time" = some (.ref f_law_time)
  b_law_time : Binds K d_law_time ["layers", "parts"] []
  f_law_parts : Addr
  d_law_parts : FuncData
  F_law_parts : Fun K "_law_parts" "_law_parts" s_law_parts f_law_parts d_law_parts
  g_law_parts : mg "_law_parts" = some (.ref f_law_parts)
  b_law_parts : Binds K d_law_parts ["pool", "layers"] []
  f_law_split : Addr
  d_law_split : FuncData
  F_law_split : Fun K "_law_split" "_law_split" s_law_split f_law_split d_law_split
  g_law_split : mg "_law_split" = some (.ref f_law_split)
  b_law_split : Binds K d_law_split ["layers", "number"] []
  f_law_first_right : Addr
  d_law_first_right : FuncData
  F_law_first_right : Fun K "_law_first_right" "_law_first_right" s_law_first_right f_law_first_right d_law_first_right
  g_law_first_right : mg "_law_first_right" = some (.ref f_law_first_right)
  b_law_first_right : Binds K d_law_first_right ["layers", "moment", "end"] []
  f_law_right : Addr
  d_law_right : FuncData
  F_law_right : Fun K "_law_right" "_law_right" s_law_right f_law_right d_law_right
  g_law_right : mg "_law_right" = some (.ref f_law_right)
  b_law_right : Binds K d_law_right ["pool"] []
  f_law : Addr
  d_law : FuncData
  F_law : Fun K "law" "law" s_law f_law d_law
  g_law : mg "law" = some (.ref f_law)
  b_law : Binds K d_law ["script"] []
  m_abs : mg "abs" = none
  m_divmod : mg "divmod" = none
  m_enumerate : mg "enumerate" = none
  m_isinstance : mg "isinstance" = none
  m_len : mg "len" = none
  m_max : mg "max" = none
  m_min : mg "min" = none
  m_range : mg "range" = none
  m_reversed : mg "reversed" = none
  m_sum : mg "sum" = none
  m_tuple : mg "tuple" = none
  m_zip : mg "zip" = none
end Rn
namespace Rn
open PySem PySem.Spec PyProof.Rows L2
section
variable {P : Program} {w : World} {K : PySem.W.Frag} {mg : Str → Option Value} {base : Heap}
/-- where the first negative one stands -/
def negAt (ns : List Int) : V := match ns.findIdx? (fun x => decide (x < 0)) with
  | none => .non
  | some i => .int (i : Nat)
theorem negAt_none {ns : List Int} (h : ∀ x ∈ ns, 0 ≤ x) : negAt ns = .non := by
  unfold negAt
  rw [List.findIdx?_eq_none_iff.mpr fun x hx => decide_eq_false (by have := h x hx; omega)]
def sp_first_negative (K : PySem.W.Frag) : Sp := fun vs H Q _ => ∃ (a : Addr) (ns : List Int), vs = [.ref a] ∧ SqL K H a (ns.map V.int) ∧ ∀ H', Same H H' → Q (negAt ns) H'
theorem ok_first_negative (T : Txt K mg) : FnOk P w K mg base CX0 1 T.f_first_negative T.d_first_negative ["waits"] (sp_first_negative K) := by
  refine T.F_first_negative.ok sc_first_negative (fun vs H Q E h => ?_) (fun cdv A outer s H vs Q E hr h => ?_)
  · obtain ⟨a, ns, rfl, _⟩ := h
    rfl
  obtain ⟨a, ns, rfl, hS, q⟩ := h
  refine ⟨_, (pss_cons (ps_for PassesOwn.never rfl (pi_enum (by rfl) T.m_enumerate (pa_cons (pv 0) pa_nil)) (pg_tup rfl (pgs_cons (pg_name (i := 1) sc_first_negative.nd rfl (Or.inl rfl)) (pgs_cons (pg_name (i := 2) sc_first_negative.nd rfl (Or.inl rfl)) pgs_nil)))
      (pss_one (ps_if (pt_cmpR op_lt (pv 2) pe_int (nomark _))
      (pss_one (ps_ret (pv 1)))
      pss_nil)))
      (pss_one (ps_ret pe_non))), ?_⟩
  -- the walk
  refine ⟨.ref a, rfl, a, ns.map V.int, rfl, hS, for_enum (fun i σ H' => (∃ y1 y2, σ = [some (.ref a), y1, y2]) ∧ Same H H' ∧ ∀ j : Nat, j < i → ∀ x, ns[j]? = some x → 0 ≤ x)
    ⟨⟨none, none, rfl⟩, Same.refl H, fun j hj => absurd hj (Nat.not_lt_zero j)⟩ (fun i σ H' _ h => h.2.1.seq hS) (fun i x σ H' t hx h nt => ?_) (fun σ H' h => ?_)⟩
  · obtain ⟨⟨y1, y2, rfl⟩, sm, hn⟩ := h
    obtain ⟨n, hx', rfl⟩ : ∃ n, ns[i]? = some n ∧ x = .int n := by
      rw [List.getElem?_map] at hx
      cases e : ns[i]? with
      | none => rw [e] at hx; cases hx
      | some n => rw [e] at hx; exact ⟨n, rfl, (Option.some.inj hx).symm⟩
    refine ⟨t, _, rfl, sqt upd_same, rfl, _, _, rfl, _, _, rfl, rfl, ?_⟩
    -- if wait < 0
    refine ⟨_, rfl, _, _, rfl, rfl, _, rfl, ite2 (fun e => ?_) (fun e => ?_)⟩
    · have e' : n < 0 := of_decide_eq_true e
      refine ⟨_, rfl, ?_⟩
      have hf : negAt ns = .int (i : Nat) := by
        unfold negAt
        have hi : i < ns.length := (List.getElem?_eq_some_iff.mp hx').1
        have : ns.findIdx? (fun x => decide (x < 0)) = some i := by
          rw [List.findIdx?_eq_some_iff_getElem]
          refine ⟨hi, ?_, fun j hj => ?_⟩
          · rw [(List.getElem?_eq_some_iff.mp hx').2]
            exact decide_eq_true e'
          · have hjl : j < ns.length := by omega
            have := hn j hj _ (List.getElem?_eq_getElem hjl)
            simp only [decide_eq_true_eq]
            omega
        rw [this]
      have := q (upd H' t (.tup [.int (i : Nat), .int n])) (sm.trans (same_new nt))
      rw [hf] at this
      exact this
    · refine ⟨⟨_, _, rfl⟩, sm.trans (same_new nt), fun j hj x hz => ?_⟩
      by_cases ej : j = i
      · subst ej
        rw [hx'] at hz
        cases hz
        have := of_decide_eq_false (Bool.eq_false_iff.mpr e)
        omega
      · exact hn j (by omega) x hz
  · obtain ⟨⟨y1, y2, rfl⟩, sm, hn⟩ := h
    have e : negAt ns = .non := negAt_none fun x hx => by
      obtain ⟨j, hj, e⟩ := List.getElem_of_mem hx
      exact hn j (by simpa using hj) x (by rw [← e]; exact List.getElem?_eq_getElem hj)
    have := q H' sm
    rw [e] at this
    exact this

end
end Rn
namespace Rn
open PySem PySem.Spec PyProof.Rows L2
section
variable {P : Program} {w : World} {K : PySem.W.Frag} {mg : Str → Option Value} {base : Heap}
def sp_is_valid_layer (K : PySem.W.Frag) : Sp := fun vs H Q _ => ∃ (v : V) (L : Lay), vs = [v] ∧ LayAt H v L ∧ ∀ H', Same H H' → Q (.bl L.ok) H'
theorem negAt_iff (ns : List Int) : decide (negAt ns = .non) = ns.all fun x => decide (0 ≤ x) := by
  by_cases h : ∀ x ∈ ns, 0 ≤ x
  · rw [negAt_none h, decide_eq_true rfl]
    symm
    rw [List.all_eq_true]
    exact fun x hx => decide_eq_true (h x hx)
  · have e : ns.all (fun x => decide (0 ≤ x)) = false := by
      rw [Bool.eq_false_iff]
      intro z
      rw [List.all_eq_true] at z
      exact h fun x hx => of_decide_eq_true (z x hx)
    rw [e]
    unfold negAt
    cases q : ns.findIdx? (fun x => decide (x < 0)) with
    | none =>
      rw [List.findIdx?_eq_none_iff] at q
      exact absurd (fun x hx => by have := of_decide_eq_false (q x hx); omega) h
    | some i => exact decide_eq_false fun z => nomatch z
theorem ok_is_valid_layer (T : Txt K mg) : FnOk P w K mg base CX0 2 T.f_is_valid_layer T.d_is_valid_layer ["layer"] (sp_is_valid_layer K) := by
  have G_first_negative := ok_first_negative (P := P) (w := w) (base := base) T
  refine T.F_is_valid_layer.ok sc_is_valid_layer (fun vs H Q E h => ?_) (fun cdv A outer s H vs Q E hr h => ?_)
  · obtain ⟨v, L, rfl, _⟩ := h
    rfl
  obtain ⟨v, L, rfl, hL, q⟩ := h
  refine ⟨_, (pss_cons (ps_if (pt_val (pe_callB call_isi (by rfl) T.m_isinstance (by decide +kernel) (pa_cons (pv 0) (pa_cons (pe_bltn (v := .ty "tuple") (by rfl) T.m_tuple (by decide +kernel) rfl) pa_nil))))
      (pss_cons (ps_asg (pv 0) (pg_tup rfl (pgs_cons (pg_name (i := 1) sc_is_valid_layer.nd rfl (Or.inl rfl)) (pgs_cons (pg_name (i := 2) sc_is_valid_layer.nd rfl (Or.inl rfl)) pgs_nil))))
      (pss_one (ps_ret (pe_and (pe_cmpR op_ge (pv 1) pe_int (nomark _)) (pe_one (pe_cmpR op_ge (pv 2) pe_int (nomark _)))))))
      pss_nil)
      (pss_one (ps_ret (pe_cmpR op_isN (pe_call G_first_negative hr (by rfl) T.g_first_negative T.F_first_negative.kp T.b_first_negative .nil pass0 (pa_cons (pv 0) pa_nil)) pe_non (nomark _))))), ?_⟩
  cases L with
  | con wt n =>
    obtain ⟨p, rfl, hp⟩ := hL
    refine ⟨_, rfl, _, _, _, _, true, rfl, .ty "tuple", .base (.tup hp), kit_ty (by decide +kernel), true, rfl, iteT ?_⟩
    refine ⟨_, rfl, p, _, rfl, sqt hp, rfl, _, _, rfl, _, _, rfl, rfl, ?_⟩
    refine ⟨_, rfl, _, _, rfl, rfl, _, rfl, ite2 (fun e => ?_) (fun e => ?_)⟩
    · refine ⟨_, rfl, _, _, rfl, rfl, ?_⟩
      have := q H (Same.refl H)
      rw [Lay.ok_con, e, Bool.true_and] at this
      exact this
    · have := q H (Same.refl H)
      rw [Lay.ok_con, Bool.eq_false_iff.mpr e, Bool.false_and] at this
      exact this
  | pol ns =>
    obtain ⟨p, rfl, hp⟩ := hL
    refine ⟨_, rfl, _, _, _, _, false, rfl, .ty "tuple", .base (.lst hp), kit_ty (by decide +kernel), false, rfl, iteF ?_⟩
    refine ⟨_, rfl, p, ns, rfl, sql hp, fun H' sm => ⟨rfl, ?_⟩⟩
    have := q H' sm
    rw [Lay.ok_pol, ← negAt_iff] at this
    exact this

end
end Rn
namespace Rn
open PySem PySem.Spec PyProof.Rows L2
section
variable {P : Program} {w : World} {K : PySem.W.Frag} {mg : Str → Option Value} {base : Heap}
def sp_check_nesting (K : PySem.W.Frag) : Sp := fun vs H Q _ => ∃ (a : Addr) (Ls : List Lay), vs = [.ref a] ∧ NestAt H a Ls ∧ (∀ L ∈ Ls, L.ok = true) ∧ ∀ H', Same H H' → Q .non H'
theorem ok_check_nesting (T : Txt K mg) : FnOk P w K mg base CX0 3 T.f_check_nesting T.d_check_nesting ["nesting"] (sp_check_nesting K) := by
  have G_is_valid_layer := ok_is_valid_layer (P := P) (w := w) (base := base) T
  refine T.F_check_nesting.ok sc_check_nesting (fun vs H Q E h => ?_) (fun cdv A outer s H vs Q E hr h => ?_)
  · obtain ⟨a, Ls, rfl, _⟩ := h
    rfl
  obtain ⟨a, Ls, rfl, hN, hok, q⟩ := h
  refine ⟨_, (pss_one (ps_for PassesOwn.never rfl (pi_enum (by rfl) T.m_enumerate (pa_cons (pv 0) pa_nil)) (pg_tup rfl (pgs_cons (pg_name (i := 1) sc_check_nesting.nd rfl (Or.inl rfl)) (pgs_cons (pg_name (i := 2) sc_check_nesting.nd rfl (Or.inl rfl)) pgs_nil)))
      (pss_one (ps_if (pt_not (pt_val (pe_call G_is_valid_layer hr (by rfl) T.g_is_valid_layer T.F_is_valid_layer.kp T.b_is_valid_layer .nil pass0 (pa_cons (pv 2) pa_nil))))
      (pss_one ps_never)
      pss_nil)))), ?_⟩
  obtain ⟨vs, hv, hl, hat⟩ := id hN
  refine ⟨.ref a, rfl, a, vs, rfl, sql hv, for_enum (fun i σ H' => (∃ y1 y2, σ = [some (.ref a), y1, y2]) ∧ Same H H') ⟨⟨none, none, rfl⟩, Same.refl H⟩ (fun i σ H' _ h => h.2.seq (sql hv)) (fun i x σ H' t hx h nt => ?_) (fun σ H' h => q H' h.2)⟩
  obtain ⟨⟨y1, y2, rfl⟩, sm⟩ := h
  have hi : i < Ls.length := by
    rw [← hl]
    exact (List.getElem?_eq_some_iff.mp hx).1
  have sm1 := sm.trans (same_new (o := .tup [.int (i : Nat), x]) nt)
  refine ⟨t, _, rfl, sqt upd_same, rfl, _, _, rfl, _, _, rfl, rfl, ?_⟩
  refine ⟨_, rfl, x, Ls[i], rfl, (hat i x _ hx (List.getElem?_eq_getElem hi)).same sm1, fun H2 s2 => ?_⟩
  rw [hok _ (List.getElem_mem hi)]
  exact ⟨true, rfl, iteF ⟨⟨_, _, rfl⟩, sm1.trans s2⟩⟩

end
end Rn
namespace Rn
open PySem PySem.Spec PyProof.Rows L2
section
variable {P : Program} {w : World} {K : PySem.W.Frag} {mg : Str → Option Value} {base : Heap}
def sp_layer_attempts (K : PySem.W.Frag) : Sp := fun vs H Q _ => ∃ (v : V) (L : Lay), vs = [v] ∧ LayAt H v L ∧ Q (.int L.cnt) H
theorem ok_layer_attempts (T : Txt K mg) : FnOk P w K mg base CX0 1 T.f_layer_attempts T.d_layer_attempts ["layer"] (sp_layer_attempts K) := by
  refine T.F_layer_attempts.ok sc_layer_attempts (fun vs H Q E h => ?_) (fun cdv A outer s H vs Q E hr h => ?_)
  · obtain ⟨v, L, rfl, _⟩ := h
    rfl
  obtain ⟨v, L, rfl, hL, q⟩ := h
  refine ⟨_, (pss_cons (ps_if (pt_val (pe_callB call_isi (by rfl) T.m_isinstance (by decide +kernel) (pa_cons (pv 0) (pa_cons (pe_bltn (v := .ty "tuple") (by rfl) T.m_tuple (by decide +kernel) rfl) pa_nil))))
      (pss_one (ps_ret (pe_ix ix_tup (pv 0) pe_int (fun _ _ => rfl))))
      pss_nil)
      (pss_one (ps_ret (pe_op op_add (pe_callB call_len_seq (by rfl) T.m_len PySem.boot_len (pa_cons (pv 0) pa_nil)) pe_int)))), ?_⟩
  cases L with
  | con wt n =>
    obtain ⟨p, rfl, hp⟩ := hL
    exact ⟨_, rfl, _, _, _, _, true, rfl, .ty "tuple", .base (.tup hp), kit_ty (by decide +kernel), true, rfl, iteT ⟨_, rfl, p, _, 1, _, rfl, rfl, sqt hp, rfl, q⟩⟩
  | pol ns =>
    obtain ⟨p, rfl, hp⟩ := hL
    refine ⟨_, rfl, _, _, _, _, false, rfl, .ty "tuple", .base (.lst hp), kit_ty (by decide +kernel), false, rfl, iteF ⟨_, rfl, p, _, rfl, .inl (sql hp), _, _, rfl, rfl, ?_⟩⟩
    rw [List.length_map]
    exact q

end
end Rn
namespace Rn
open PySem PySem.Spec PyProof.Rows L2
section
variable {P : Program} {w : World} {K : PySem.W.Frag} {mg : Str → Option Value} {base : Heap}
def sp_time_in_layer (K : PySem.W.Frag) : Sp := fun vs H Q _ => ∃ (v : V) (L : Lay) (j : Nat), vs = [v, .int (j : Int)] ∧ LayAt H v L ∧ L.fair ∧ j < L.n ∧ ∀ H', Same H H' → Q (.int (L.pt j)) H'
theorem ok_time_in_layer (T : Txt K mg) : FnOk P w K mg base CX0 1 T.f_time_in_layer T.d_time_in_layer ["layer", "attempt"] (sp_time_in_layer K) := by
  refine T.F_time_in_layer.ok sc_time_in_layer (fun vs H Q E h => ?_) (fun cdv A outer s H vs Q E hr h => ?_)
  · obtain ⟨v, L, j, rfl, _⟩ := h
    rfl
  obtain ⟨v, L, j, rfl, hL, hf, h2, q⟩ := h
  refine ⟨_, (pss_cons (ps_if (pt_val (pe_callB call_isi (by rfl) T.m_isinstance (by decide +kernel) (pa_cons (pv 0) (pa_cons (pe_bltn (v := .ty "tuple") (by rfl) T.m_tuple (by decide +kernel) rfl) pa_nil))))
      (pss_one (ps_ret (pe_op op_mulW (pe_ix ix_tup (pv 0) pe_int (fun _ _ => rfl)) (pv 1))))
      pss_nil)
      (pss_one (ps_ret (pe_callB (cr_sum rfl) (by rfl) T.m_sum (by decide +kernel) (pa_cons (pe_slice sl_list (pv 0) po_none (po_some (pv 1))) pa_nil))))), ?_⟩
  obtain ⟨hok, hc, hf⟩ := hf
  cases L with
  | con wt n =>
    obtain ⟨p, rfl, hp⟩ := hL
    have hn := Lay.n_cnt hok
    have e : (Lay.con wt n).cnt = n := rfl
    rw [e] at hc hn
    exact ⟨_, rfl, _, _, _, _, true, rfl, .ty "tuple", .base (.tup hp), kit_ty (by decide +kernel), true, rfl, iteT ⟨_, rfl, p, _, 0, _, rfl, rfl, sqt hp, rfl, _, rfl, _, _, rfl, rfl, wide_mul (a := 40) (b := 100) (by omega) (by omega) (by decide) (by decide) (by decide), q H (Same.refl H)⟩⟩
  | pol ns =>
    obtain ⟨p, rfl, hp⟩ := hL
    refine ⟨_, rfl, _, _, _, _, false, rfl, .ty "tuple", .base (.lst hp), kit_ty (by decide +kernel), false, rfl, iteF ⟨_, rfl, _, rfl, _, rfl, p, _, rfl, sql hp, fun b hb => ?_⟩⟩
    rw [cut_n, ← List.map_take]
    exact ⟨b, ns.take j, rfl, sql upd_same, q _ (same_new hb)⟩

end
end Rn
namespace Rn
open PySem PySem.Spec PyProof.Rows L2
section
variable {P : Program} {w : World} {K : PySem.W.Frag} {mg : Str → Option Value} {base : Heap}
def sp_duration (K : PySem.W.Frag) : Sp := fun vs H Q _ => ∃ (v : V) (L : Lay), vs = [v] ∧ LayAt H v L ∧ L.fair ∧ ∀ H', Same H H' → Q (.int (L.pt (L.n - 1))) H'
theorem ok_duration (T : Txt K mg) : FnOk P w K mg base CX0 2 T.f_duration T.d_duration ["layer"] (sp_duration K) := by
  have G_layer_attempts := ok_layer_attempts (P := P) (w := w) (base := base) T
  have G_time_in_layer := ok_time_in_layer (P := P) (w := w) (base := base) T
  refine T.F_duration.ok sc_duration (fun vs H Q E h => ?_) (fun cdv A outer s H vs Q E hr h => ?_)
  · obtain ⟨v, L, rfl, _⟩ := h
    rfl
  obtain ⟨v, L, rfl, hL, hf, q⟩ := h
  refine ⟨_, (pss_one (ps_ret (pe_call G_time_in_layer hr (by rfl) T.g_time_in_layer T.F_time_in_layer.kp T.b_time_in_layer .nil pass0 (pa_cons (pv 0) (pa_cons (pe_op op_sub (pe_call G_layer_attempts hr (by rfl) T.g_layer_attempts T.F_layer_attempts.kp T.b_layer_attempts .nil pass0 (pa_cons (pv 0) pa_nil)) pe_int) pa_nil))))), ?_⟩
  have h1 := Lay.n_cnt hf.1
  have h2 := Lay.n_pos hf.1
  exact ⟨_, rfl, _, rfl, v, L, rfl, hL, _, _, rfl, rfl, v, L, L.n - 1, by rw [show ((L.n - 1 : Nat) : Int) = L.cnt - 1 by omega]; rfl, hL, hf, by omega, q⟩

end
end Rn
namespace Rn
open PySem PySem.Spec PyProof.Rows L2
section
variable {P : Program} {w : World} {K : PySem.W.Frag} {mg : Str → Option Value} {base : Heap}
def dursL (Ls : List Lay) : List Int := (List.range (Ls.length + 1)).map fun i => durN (Ls.take i)
theorem dursL_snoc (Ls : List Lay) (L : Lay) : dursL (Ls ++ [L]) = dursL Ls ++ [durN (Ls ++ [L])] := by
  unfold dursL
  rw [List.length_append, List.length_singleton, List.range_succ, List.map_append]
  congr 1
  · refine List.map_congr_left fun i hi => ?_
    have := List.mem_range.mp hi
    rw [List.take_append_of_le_length (by omega)]
  · rw [List.map_singleton, List.take_of_length_le (by rw [List.length_append]; exact Nat.le_refl _)]
theorem dursL_len (Ls : List Lay) : (dursL Ls).length = Ls.length + 1 := by
  unfold dursL
  rw [List.length_map, List.length_range]
theorem dursL_last (Ls : List Lay) : ∃ r, dursL Ls = r ++ [durN Ls] := by
  unfold dursL
  rw [List.range_succ, List.map_append]
  exact ⟨_, by rw [List.map_singleton, List.take_length]⟩
def sp_durations (K : PySem.W.Frag) : Sp := fun vs H Q _ => ∃ (a : Addr) (Ls : List Lay), vs = [.ref a] ∧ NestAt H a Ls ∧ (∀ L ∈ Ls, L.fair) ∧ Ls.length ≤ 8 ∧ ∀ H' r, Same H H' → H r = none → H' r = some (.lst ((dursL Ls).map V.int)) → Q (.ref r) H'
theorem ok_durations (T : Txt K mg) : FnOk P w K mg base CX0 3 T.f_durations T.d_durations ["nesting"] (sp_durations K) := by
  have G_layer_attempts := (ok_layer_attempts (P := P) (w := w) (base := base) T).mono (by decide : 1 ≤ 2)
  have G_duration := ok_duration (P := P) (w := w) (base := base) T
  refine T.F_durations.ok sc_durations (fun vs H Q E h => ?_) (fun cdv A outer s H vs Q E hr h => ?_)
  · obtain ⟨a, Ls, rfl, _⟩ := h
    rfl
  obtain ⟨a, Ls, rfl, hN, fair, hl8, k⟩ := h
  refine ⟨_, (pss_cons (ps_set (i := 1) sc_durations.nd rfl (Or.inl rfl) (pe_lst (pa_cons pe_int pa_nil)))
      (pss_cons (ps_for PassesOwn.never rfl (pi_list (pv 0)) (pg_name (i := 2) sc_durations.nd rfl (Or.inl rfl))
      (pss_one (ps_expr (pe_bm PySem.F.plainAttrs_list PySem.F.slot_list_append PySem.F.type_list_append mt_append (pv 1) (pa_cons (pe_op op_add (pe_op op_mulW (pe_ix ix_list (pv 1) (pe_un un_neg pe_int) (fun _ _ => rfl)) (pe_call G_layer_attempts hr (by rfl) T.g_layer_attempts T.F_layer_attempts.kp T.b_layer_attempts .nil pass0 (pa_cons (pv 2) pa_nil))) (pe_call G_duration hr (by rfl) T.g_duration T.F_duration.kp T.b_duration .nil pass0 (pa_cons (pv 2) pa_nil))) pa_nil)))))
      (pss_one (ps_ret (pv 1))))), ?_⟩
  obtain ⟨us, hv, hl, hat⟩ := hN
  refine ⟨size_le (by show 1 ≤ 100000; decide), fun r hr' => ?_⟩
  have sr := same_new (o := .lst [.int 0]) hr'
  refine ⟨_, rfl, a, rfl, ⟨_, sql (sr _ _ hv)⟩, for_list (xs := us) (fun i σ H' => (∃ y2, σ = [some (.ref a), some (.ref r), y2]) ∧ Same H H' ∧ H' r = some (.lst ((dursL (Ls.take i)).map V.int)))
    ⟨⟨none, rfl⟩, sr, upd_same⟩ (fun i σ H' _ h => sql (h.2.1 _ _ hv)) (fun i x σ H' hx h => ?_) (fun σ H' h => ?_)⟩
  · obtain ⟨⟨y2, rfl⟩, sm, hrr⟩ := h
    have hi : i < Ls.length := by
      rw [← hl]
      exact (List.getElem?_eq_some_iff.mp hx).1
    have hi' := List.getElem?_eq_getElem hi
    have tk : Ls.take (i + 1) = Ls.take i ++ [Ls[i]] := by rw [List.take_add_one, hi']; rfl
    have lay := (hat i x _ hx hi').same sm
    have fL := fair _ (List.getElem_mem hi)
    have fairT : ∀ L ∈ Ls.take i, L.fair := fun L hL => fair L (List.mem_of_mem_take hL)
    have okT : ∀ L ∈ Ls.take i, L.ok = true := fun L hL => (fairT L hL).1
    have ap := attN_pos okT
    have bT := (time_big (m := 8) (i := attN (Ls.take i) - 1) fairT (by rw [List.length_take]; omega) (by omega)).2
    have bD : (durN (Ls.take i)).natAbs < 2 ^ 841 := bT
    have ds := dur_snoc (L := Ls[i]) fL.1 okT
    generalize Ls[i] = L at *
    have c1 := LayAt.con_pos fL.1
    have c2 := fL.2.1
    obtain ⟨rs, ers⟩ := dursL_last (Ls.take i)
    have hlen := dursL_len (Ls.take i)
    rw [List.length_take] at hlen
    refine ⟨_, rfl, .inl ⟨rfl, _, sql hrr⟩, _, rfl, _, rfl, r, _, _, .int (durN (Ls.take i)), rfl, rfl, sql hrr, ?_, _, rfl, x, L, rfl, lay, _, _, rfl, rfl, wide_mul (a := 841) (b := 100) bD (by omega) (by decide) (by decide) (by decide), _, rfl, x, L, rfl, lay, fL, fun H2 s2 => ⟨_, _, rfl, rfl, r, _, _, rfl, rfl, s2 _ _ hrr, size_lt (by rw [List.length_map]; omega), ⟨_, rfl⟩, same_keep (sm.trans s2) hr', ?_⟩⟩
    · rw [ers, List.map_append]
      exact atI_last _ _
    · rw [upd_same, tk, dursL_snoc, List.map_append, ds]
      show some (HO.lst (_ ++ [V.int (durN (Ls.take i) * L.cnt + L.pt (L.n - 1))])) = some (HO.lst (_ ++ [V.int (L.cnt * durN (Ls.take i) + L.pt (L.n - 1))]))
      rw [Int.mul_comm]
  · obtain ⟨⟨y2, rfl⟩, sm, hrr⟩ := h
    rw [hl, List.take_length] at hrr
    exact ⟨_, rfl, k H' r sm hr' hrr⟩

end
end Rn
namespace Rn
open PySem PySem.Spec PyProof.Rows L2
section
variable {P : Program} {w : World} {K : PySem.W.Frag} {mg : Str → Option Value} {base : Heap}
theorem run_con {c n w t : Int} (hc : 0 ≤ c) (hn : 1 ≤ n) (hw : 0 ≤ w) (ht : t ≤ (n - 1) * w + c * (n - 1) + w) (hl : 0 < t - w) : 0 < c + w ∧ ∃ p : Nat, -(-(t - w) / (c + w)) = (p : Int) ∧ RunAt (.con c n) w t p := by
  have e1 : (n - 1) * w + c * (n - 1) = (n - 1) * (c + w) := by rw [Int.mul_add, Int.mul_comm c, Int.add_comm]
  have pos : 0 < c + w := by
    rcases Int.lt_or_le 0 (c + w) with z | z
    · exact z
    · have z2 : c + w = 0 := by omega
      rw [e1, z2, Int.mul_zero] at ht
      omega
  refine ⟨pos, ?_⟩
  have hdm := Int.mul_ediv_add_emod (-(t - w)) (c + w)
  have hm0 := Int.emod_nonneg (-(t - w)) (show c + w ≠ 0 by omega)
  have hm1 := Int.emod_lt_of_pos (-(t - w)) pos
  generalize -(t - w) / (c + w) = k at *
  generalize -(t - w) % (c + w) = m at *
  have hk : k < 0 := by
    rcases Int.lt_or_le k 0 with z | z
    · exact z
    · have := Int.mul_nonneg (Int.le_of_lt pos) z
      omega
  obtain ⟨p, hp⟩ : ∃ p : Nat, -k = (p : Int) := ⟨(-k).toNat, by omega⟩
  have hk' : k = -(p : Int) := by omega
  subst hk'
  have e2 : (c + w) * -(p : Int) = -((p : Int) * (c + w)) := by rw [Int.mul_neg, Int.mul_comm]
  rw [e2] at hdm
  have e3 : ∀ q : Int, q * w + c * q + w = q * (c + w) + w := fun q => by rw [Int.mul_add, Int.mul_comm c, Int.add_comm (q * c)]
  have hN : (Lay.con c n).n = n.toNat := rfl
  refine ⟨p, by omega, ?_, ?_, fun z => ?_⟩
  · rw [hN]
    have : (p : Int) ≤ n - 1 := by
      rcases Int.lt_or_le (n - 1) (p : Int) with z | z
      · exfalso
        have h1 : (n - 1) * (c + w) ≤ ((p : Int) - 1) * (c + w) := Int.mul_le_mul_of_nonneg_right (by omega) (by omega)
        have h0 : ((p : Int) - 1) * (c + w) = (p : Int) * (c + w) - (c + w) := by rw [Int.sub_mul, Int.one_mul]
        omega
      · exact z
    omega
  · show t ≤ (p : Int) * w + c * (p : Int) + w
    rw [e3]
    omega
  · show ((p - 1 : Nat) : Int) * w + c * ((p - 1 : Nat) : Int) + w < t
    rw [e3, show ((p - 1 : Nat) : Int) = (p : Int) - 1 by omega, Int.sub_mul, Int.one_mul]
    omega
def sp_first_run_until (K : PySem.W.Frag) : Sp := fun vs H Q _ => ∃ (v : V) (L : Lay) (w t : Int), vs = [v, .int w, .int t] ∧ LayAt H v L ∧ L.fair ∧ 0 ≤ w ∧ w.natAbs < 2 ^ 900 ∧ t ≤ ((L.n - 1 : Nat) : Int) * w + L.pt (L.n - 1) + w ∧ ∀ p, RunAt L w t p → Q (.int (p : Nat)) H
theorem ok_first_run_until (T : Txt K mg) : FnOk P w K mg base CX0 1 T.f_first_run_until T.d_first_run_until ["layer", "within", "time"] (sp_first_run_until K) := by
  refine T.F_first_run_until.ok sc_first_run_until (fun vs H Q E h => ?_) (fun cdv A outer s H vs Q E hr h => ?_)
  · obtain ⟨v, L, w, t, rfl, _⟩ := h
    rfl
  obtain ⟨v, L, wi, t, rfl, hL, hf, w0, w1, ht, q⟩ := h
  refine ⟨_, (pss_cons (ps_if (pt_val (pe_callB call_isi (by rfl) T.m_isinstance (by decide +kernel) (pa_cons (pv 0) (pa_cons (pe_bltn (v := .ty "tuple") (by rfl) T.m_tuple (by decide +kernel) rfl) pa_nil))))
      (pss_cons (ps_set (i := 3) sc_first_run_until.nd rfl (Or.inl rfl) (pe_op op_sub (pv 2) (pv 1)))
      (pss_one (ps_ret (pe_ifExp (pt_cmpR op_gt (pv 3) pe_int (nomark _)) (pe_un un_neg (pe_op op_fdivW (pe_un un_neg (pv 3)) (pe_op op_add (pe_ix ix_tup (pv 0) pe_int (fun _ _ => rfl)) (pv 1)))) pe_int))))
      pss_nil)
      (pss_cons (ps_set (i := 4) sc_first_run_until.nd rfl (Or.inl rfl) pe_int)
      (pss_cons (ps_set (i := 5) sc_first_run_until.nd rfl (Or.inl rfl) (pv 1))
      (pss_cons (ps_while PassesOwn.never (pt_cmpR op_lt (pv 5) (pv 2) (nomark _))
      (pss_cons (ps_set (i := 5) sc_first_run_until.nd rfl (Or.inl rfl) (pe_op op_add (pe_op op_add (pv 5) (pe_ix ix_list (pv 0) (pv 4) (fun _ _ => rfl))) (pv 1)))
      (pss_one (ps_set (i := 4) sc_first_run_until.nd rfl (Or.inl rfl) (pe_op op_add (pv 4) pe_int)))))
      (pss_one (ps_ret (pv 4))))))), ?_⟩
  cases L with
  | con c n =>
    obtain ⟨p, rfl, hp⟩ := hL
    obtain ⟨hok, hcn, hc0, hc1⟩ := hf
    have n1 : 1 ≤ n := LayAt.con_pos hok
    have hN : (Lay.con c n).n = n.toNat := rfl
    have en : (((Lay.con c n).n - 1 : Nat) : Int) = n - 1 := by omega
    have ept : (Lay.con c n).pt ((Lay.con c n).n - 1) = c * (((Lay.con c n).n - 1 : Nat) : Int) := rfl
    rw [ept, en] at ht
    refine ⟨_, rfl, _, _, _, _, true, rfl, .ty "tuple", .base (.tup hp), kit_ty (by decide +kernel), true, rfl, iteT ?_⟩
    refine ⟨_, rfl, _, rfl, _, _, rfl, rfl, ?_⟩
    refine ⟨_, rfl, _, _, rfl, rfl, _, rfl, ite2 (fun e => ?_) (fun e => ?_)⟩
    · have e' : 0 < t - wi := of_decide_eq_true e
      obtain ⟨pos, k, hk, hrun⟩ := run_con hc0 n1 w0 ht e'
      have wb : (c + wi).natAbs < 2 ^ 901 := by
        have h3 : (2 : Nat) ^ 901 = 2 ^ 900 + 2 ^ 900 := by rw [← Nat.two_mul, ← Nat.pow_succ']
        have h4 : c.natAbs < 2 ^ 900 := Nat.lt_of_lt_of_le (show c.natAbs < 2 ^ 100 by omega) (Nat.pow_le_pow_right (by decide) (by decide))
        rw [h3]
        generalize (2 : Nat) ^ 900 = P at *
        omega
      have qq := q k hrun
      rw [← hk] at qq
      exact ⟨_, rfl, _, rfl, _, rfl, p, _, 0, _, rfl, rfl, sqt hp, rfl, _, rfl, _, _, rfl, rfl, _, _, rfl, rfl, wide_div (b := 901) pos wb (by decide) (by decide), _, rfl, qq⟩
    · have e' : ¬ 0 < t - wi := of_decide_eq_false (Bool.eq_false_iff.mpr e)
      refine q 0 ⟨by omega, ?_, fun z => absurd z (Nat.lt_irrefl 0)⟩
      rw [Lay.pt_zero]
      show t ≤ ((0 : Nat) : Int) * wi + 0 + wi
      simp only [Int.natCast_zero, Int.zero_mul]
      omega
  | pol ns =>
    obtain ⟨p, rfl, hp⟩ := hL
    have hl : ns.length + 1 = (Lay.pol ns).n := Lay.waits_n hf.1
    refine ⟨_, rfl, _, _, _, _, false, rfl, .ty "tuple", .base (.lst hp), kit_ty (by decide +kernel), false, rfl, iteF ?_⟩
    refine ⟨_, rfl, ?_⟩
    refine while_by (fun σ H' => ∃ (k : Nat) (e : Int), σ = [some (.ref p), some (.int wi), some (.int t), none, some (.int (k : Int)), some (.int e)] ∧ H' = H ∧ k < (Lay.pol ns).n ∧ e = (k : Int) * wi + (Lay.pol ns).pt k + wi ∧ (0 < k → ((k - 1 : Nat) : Int) * wi + (Lay.pol ns).pt (k - 1) + wi < t))
      (fun σ _ => match σ with | [_, _, _, _, some (.int k), _] => ns.length - k.toNat | _ => 0) ⟨0, wi, rfl, rfl, by omega, ?_, fun z => absurd z (Nat.lt_irrefl 0)⟩ (fun σ H' h => ?_) (fun σ H' Q Q' hq hc => ?_)
    · rw [Lay.pt_zero]
      simp
    · obtain ⟨k, e, rfl, rfl, hk, he, hprev⟩ := h
      refine ⟨_, rfl, _, rfl, _, _, rfl, rfl, _, rfl, ite2 (fun e1 => ?_) (fun e1 => ?_)⟩
      · have e' : e < t := of_decide_eq_true e1
        have hk2 : k + 1 < (Lay.pol ns).n := by
          apply Nat.lt_of_le_of_ne hk
          intro z
          rw [← z, Nat.succ_sub_one] at ht
          omega
        have hkl : k < ns.length := by omega
        have g := Lay.wt_get hf.1 (j := k + 1) (by omega) hk2
        have g' : atI (ns.map V.int) (k : Int) = some (.int ((Lay.pol ns).wt (k + 1))) := atI_nat (map_get g)
        have ps := Lay.pt_succ hf.1 hk2
        refine ⟨_, rfl, _, rfl, _, rfl, p, _, _, _, rfl, rfl, sql hp, g', _, _, rfl, rfl, _, rfl, _, _, rfl, rfl, _, rfl, _, _, rfl, rfl, ⟨k + 1, _, rfl, rfl, hk2, ?_, fun _ => ?_⟩, ?_⟩
        · show e + (Lay.pol ns).wt (k + 1) + wi = ((k + 1 : Nat) : Int) * wi + (Lay.pol ns).pt (k + 1) + wi
          rw [ps, he]
          push_cast
          rw [Int.add_mul, Int.one_mul]
          omega
        · rw [Nat.add_sub_cancel]
          omega
        · show ns.length - ((k : Int) + 1).toNat < ns.length - ((k : Int)).toNat
          omega
      · have e' : ¬ e < t := of_decide_eq_false (Bool.eq_false_iff.mpr e1)
        exact ⟨_, rfl, q k ⟨hk, by omega, hprev⟩⟩
    · obtain ⟨v1, e1, v2, e2, i, j, e3, e4, b, e5, z⟩ := hc
      exact ⟨v1, e1, v2, e2, i, j, e3, e4, b, e5, hq _ _ z⟩

end
end Rn
namespace Rn
open PySem PySem.Spec PyProof.Rows L2
section
variable {P : Program} {w : World} {K : PySem.W.Frag} {mg : Str → Option Value} {base : Heap}
theorem dursL_get (Ls : List Lay) {i : Nat} (h : i ≤ Ls.length) : (dursL Ls)[i]? = some (durN (Ls.take i)) := by
  unfold dursL
  rw [List.getElem?_map, List.getElem?_range (by omega)]
  rfl
theorem take_pop {α : Type} (xs : List α) (k : Nat) : (xs.take (k + 1)).dropLast = xs.take ((xs.take (k + 1)).length - 1) := by
  rw [List.dropLast_eq_take, List.take_take, List.length_take]
  congr 1
  omega
def sp_first_attempt_from (K : PySem.W.Frag) : Sp := fun vs H Q _ => ∃ (a : Addr) (Ls : List Lay) (t : Int), vs = [.ref a, .int t] ∧ NestAt H a Ls ∧ (∀ L ∈ Ls, L.fair) ∧ Ls.length ≤ 8 ∧ 0 ≤ t ∧
  (durN Ls < t → ∀ H', Same H H' → Q .non H') ∧ (t ≤ durN Ls → ∀ H' r, Same H H' → First Ls t r → Q (.int (r : Nat)) H')
theorem ok_first_attempt_from (T : Txt K mg) : FnOk P w K mg base CX0 4 T.f_first_attempt_from T.d_first_attempt_from ["nesting", "time"] (sp_first_attempt_from K) := by
  have G_check_nesting := ok_check_nesting (P := P) (w := w) (base := base) T
  have G_layer_attempts := (ok_layer_attempts (P := P) (w := w) (base := base) T).mono (by decide : 1 ≤ 3)
  have G_durations := ok_durations (P := P) (w := w) (base := base) T
  have G_time_in_layer := (ok_time_in_layer (P := P) (w := w) (base := base) T).mono (by decide : 1 ≤ 3)
  have G_first_run_until := (ok_first_run_until (P := P) (w := w) (base := base) T).mono (by decide : 1 ≤ 3)
  refine T.F_first_attempt_from.ok sc_first_attempt_from (fun vs H Q E h => ?_) (fun cdv A outer s H vs Q E hr h => ?_)
  · obtain ⟨a, Ls, t, rfl, _⟩ := h
    rfl
  obtain ⟨a, Ls, t, rfl, hN, fair, hl8, t0, q1, q2⟩ := h
  refine ⟨_, (pss_cons (ps_expr (pe_call G_check_nesting hr (by rfl) T.g_check_nesting T.F_check_nesting.kp T.b_check_nesting .nil pass0 (pa_cons (pv 0) pa_nil)))
      (pss_cons (ps_if (pt_cmpR op_lt (pv 1) pe_int (nomark _))
      (pss_one ps_never)
      pss_nil)
      (pss_cons (ps_set (i := 2) sc_first_attempt_from.nd rfl (Or.inl rfl) (pe_call G_durations hr (by rfl) T.g_durations T.F_durations.kp T.b_durations .nil pass0 (pa_cons (pv 0) pa_nil)))
      (pss_cons (ps_if (pt_cmpR op_gt (pv 1) (pe_bm0 PySem.F.plainAttrs_list PySem.F.slot_list_pop PySem.F.type_list_pop mt_pop (pv 2)) (nomark _))
      (pss_one (ps_ret pe_non))
      pss_nil)
      (pss_cons (ps_set (i := 3) sc_first_attempt_from.nd rfl (Or.inl rfl) pe_int)
      (pss_cons (ps_set (i := 4) sc_first_attempt_from.nd rfl (Or.inl rfl) (pv 1))
      (pss_cons (ps_for PassesOwn.never rfl (pi_reversed (by rfl) T.m_reversed (pa_cons (pv 0) pa_nil)) (pg_name (i := 5) sc_first_attempt_from.nd rfl (Or.inl rfl))
      (pss_cons (ps_set (i := 6) sc_first_attempt_from.nd rfl (Or.inl rfl) (pe_bm0 PySem.F.plainAttrs_list PySem.F.slot_list_pop PySem.F.type_list_pop mt_pop (pv 2)))
      (pss_cons (ps_set (i := 7) sc_first_attempt_from.nd rfl (Or.inl rfl) (pe_call G_first_run_until hr (by rfl) T.g_first_run_until T.F_first_run_until.kp T.b_first_run_until .nil pass0 (pa_cons (pv 5) (pa_cons (pv 6) (pa_cons (pv 4) pa_nil)))))
      (pss_cons (ps_set (i := 3) sc_first_attempt_from.nd rfl (Or.inl rfl) (pe_op op_add (pe_op op_mulW (pv 3) (pe_call G_layer_attempts hr (by rfl) T.g_layer_attempts T.F_layer_attempts.kp T.b_layer_attempts .nil pass0 (pa_cons (pv 5) pa_nil))) (pv 7)))
      (pss_one (ps_set (i := 4) sc_first_attempt_from.nd rfl (Or.inl rfl) (pe_op op_sub (pe_op op_sub (pv 4) (pe_op op_mulW (pv 7) (pv 6))) (pe_call G_time_in_layer hr (by rfl) T.g_time_in_layer T.F_time_in_layer.kp T.b_time_in_layer .nil pass0 (pa_cons (pv 5) (pa_cons (pv 7) pa_nil))))))))))
      (pss_one (ps_ret (pv 3)))))))))), ?_⟩
  have ok1 : ∀ L ∈ Ls, L.ok = true := fun L hL => (fair L hL).1
  refine ⟨_, rfl, a, Ls, rfl, hN, ok1, fun H1 s1 => ?_⟩
  refine ⟨_, rfl, _, _, rfl, rfl, _, rfl, ite2 (fun e => absurd (of_decide_eq_true e) (show ¬ t < 0 by omega)) (fun _ => ?_)⟩
  refine ⟨_, rfl, a, Ls, rfl, hN.same s1, fair, hl8, fun H2 r s2 f2 e2 => ?_⟩
  have fr : H r = none := s1.free f2
  have S2 := s1.trans s2
  have hlen := dursL_len Ls
  have ela : ((dursL Ls).map V.int)[((dursL Ls).map V.int).length - 1]? = some (.int (durN Ls)) := by
    rw [List.length_map, hlen, Nat.add_sub_cancel, map_get (dursL_get Ls (Nat.le_refl _)), List.take_length]
  have epop : ((dursL Ls).map V.int).dropLast = ((dursL Ls).take Ls.length).map V.int := by
    rw [List.dropLast_eq_take, List.length_map, hlen, Nat.add_sub_cancel, List.map_take]
  refine ⟨_, rfl, _, rfl, .inl ⟨rfl, _, sql e2⟩, r, _, _, rfl, rfl, e2, ela, _, _, rfl, rfl, _, rfl, ?_⟩
  rw [epop]
  have S3 : Same H (upd H2 r (.lst (((dursL Ls).take Ls.length).map V.int))) := same_keep S2 fr
  have e3 := upd_same (H := H2) (a := r) (o := .lst (((dursL Ls).take Ls.length).map V.int))
  generalize upd H2 r (.lst (((dursL Ls).take Ls.length).map V.int)) = H3 at *
  refine ite2 (fun e => ?_) (fun e => ?_)
  · have e' : durN Ls < t := of_decide_eq_true e
    exact q1 e' H3 S3
  have e' : ¬ durN Ls < t := of_decide_eq_false (Bool.eq_false_iff.mpr e)
  obtain ⟨us, hv, hl, hat⟩ := id (hN.same S3)
  have ra : r ≠ a := fun z => by
    obtain ⟨_, h, _⟩ := hN
    rw [← z, fr] at h
    cases h
  refine ⟨_, rfl, _, rfl, a, us, rfl, sql hv, for_it walk_rev (fun i σ H' => ∃ (A : Nat) (left : Int) (y5 y6 y7 : Option V), σ = [some (.ref a), some (.int t), some (.ref r), some (.int (A : Int)), some (.int left), y5, y6, y7] ∧
      Same H H' ∧ H' r = some (.lst (((dursL Ls).take (Ls.length - i)).map V.int)) ∧ left ≤ durN (Ls.take (Ls.length - i)) ∧ (A + 1) * attN (Ls.take (Ls.length - i)) ≤ attN Ls ∧ ∀ r', First (Ls.take (Ls.length - i)) left r' → First Ls t (A * attN (Ls.take (Ls.length - i)) + r'))
    ⟨0, t, none, none, none, rfl, S3, e3, by rw [Nat.sub_zero, List.take_length]; omega, by rw [Nat.sub_zero, List.take_length, Nat.zero_add, Nat.one_mul]; exact Nat.le_refl _, fun r' h => by rw [Nat.sub_zero, List.take_length] at h; rw [Nat.zero_mul, Nat.zero_add]; exact h⟩ (fun i σ H' _ h => by
      obtain ⟨_, _, _, _, _, _, sm, _⟩ := h
      obtain ⟨us', hv', _⟩ := id hN
      have := S3 _ _ hv'
      rw [hv] at this
      cases this
      exact sql (sm _ _ hv')) (fun i x σ H4 H5 hi h hy => ?_) (fun σ H4 h => ?_)⟩
  · obtain ⟨A, left, y5, y6, y7, rfl, sm, hr4, hleft, hA, hF⟩ := h
    obtain ⟨rfl, hx⟩ := hy
    have hi' : i < Ls.length := by omega
    obtain ⟨k, hk⟩ : ∃ k, Ls.length - i = k + 1 := ⟨Ls.length - i - 1, by omega⟩
    rw [hk] at hr4 hleft hF hA
    have hk' : Ls.length - (i + 1) = k := by omega
    rw [hk']
    have kl : k < Ls.length := by omega
    have hLk := List.getElem?_eq_getElem kl
    have hxk : us[k]? = some x := by
      rw [show us.length - 1 - i = k by omega] at hx
      exact hx
    obtain ⟨us', hv', hl', hat'⟩ := id (hN.same sm)
    have eus : us' = us := by
      obtain ⟨us2, hv2, _⟩ := id hN
      have h1 := S3 _ _ hv2
      have h2 := sm _ _ hv2
      rw [hv] at h1
      rw [hv'] at h2
      cases h1
      cases h2
      rfl
    subst eus
    have lay := hat' k x _ hxk hLk
    have fL := fair _ (List.getElem_mem kl)
    have tk : Ls.take (k + 1) = Ls.take k ++ [Ls[k]] := by rw [List.take_add_one, hLk]; rfl
    have fairT : ∀ L ∈ Ls.take k, L.fair := fun L hL => fair L (List.mem_of_mem_take hL)
    have okT : ∀ L ∈ Ls.take k, L.ok = true := fun L hL => (fairT L hL).1
    have ap := attN_pos okT
    have hD0 := dur_nonneg fairT
    have bT := (time_big (m := 8) (i := attN (Ls.take k) - 1) fairT (by rw [List.length_take]; omega) (by omega)).2
    have bD : (durN (Ls.take k)).natAbs < 2 ^ 841 := bT
    have ds := dur_snoc (L := Ls[k]) fL.1 okT
    have fs := fun p r' => first_snoc (L := Ls[k]) (As := Ls.take k) (t := left) (p := p) (r := r') okT
    rw [tk] at hleft hF hA
    have e6 : (((dursL Ls).take (k + 1)).map V.int)[(((dursL Ls).take (k + 1)).map V.int).length - 1]? = some (.int (durN (Ls.take k))) := by
      have : (((dursL Ls).take (k + 1)).map V.int).length = k + 1 := by rw [List.length_map, List.length_take]; omega
      rw [this, Nat.add_sub_cancel]
      refine map_get ?_
      rw [List.getElem?_take, if_pos (by omega)]
      exact dursL_get Ls (by omega)
    have epop2 : (((dursL Ls).take (k + 1)).map V.int).dropLast = ((dursL Ls).take k).map V.int := by
      rw [← List.map_dropLast, take_pop]
      congr 2
      rw [List.length_take]
      omega
    generalize Ls[k] = L at *
    have c1 := LayAt.con_pos fL.1
    have cn := Lay.n_cnt fL.1
    have c2 := fL.2.1
    have hAb : ((A : Nat) : Int).natAbs < 2 ^ 801 := by
      have h1 := (big8 (m := 8) (fun L hL => ⟨(fair L hL).1, (fair L hL).2.1⟩) hl8).2
      have h2 := attN_of ok1
      have h3 : 1 ≤ attN (Ls.take k ++ [L]) := by
        rw [attN_app]
        exact Nat.mul_le_mul ap (show 1 ≤ L.n * 1 by have := Lay.n_pos fL.1; omega)
      have h4 : (A + 1) * 1 ≤ (A + 1) * attN (Ls.take k ++ [L]) := Nat.mul_le_mul_left _ h3
      refine Nat.lt_of_le_of_lt ?_ h1
      omega
    -- within = lengths.pop()
    refine ⟨_, rfl, .inl ⟨rfl, _, sql hr4⟩, r, _, _, rfl, rfl, hr4, e6, ?_⟩
    rw [epop2]
    have sm6 : Same H (upd H5 r (.lst (((dursL Ls).take k).map V.int))) := same_keep sm fr
    have e7 := upd_same (H := H5) (a := r) (o := .lst (((dursL Ls).take k).map V.int))
    have lay6 : LayAt (upd H5 r (.lst (((dursL Ls).take k).map V.int))) x L := lay.keep fun y hy z => by
      subst z
      obtain ⟨vs0, h0, hl0, hat0⟩ := id hN
      have : vs0 = us' := by
        have h1 := S3 _ _ h0
        rw [hv] at h1
        cases h1
        rfl
      subst this
      have := hat0 k x L hxk hLk
      obtain ⟨p, e⟩ := this.ref
      rw [hy] at e
      cases e
      cases L with
      | pol ns => obtain ⟨_, e, z⟩ := this; rw [hy] at e; cases e; rw [fr] at z; cases z
      | con w n => obtain ⟨_, e, z⟩ := this; rw [hy] at e; cases e; rw [fr] at z; cases z
    generalize upd H5 r (.lst (((dursL Ls).take k).map V.int)) = H6 at *
    have hcond : left ≤ ((L.n - 1 : Nat) : Int) * durN (Ls.take k) + L.pt (L.n - 1) + durN (Ls.take k) := by
      rw [ds] at hleft
      have : ((L.n - 1 : Nat) : Int) = L.cnt - 1 := by omega
      rw [this, Int.sub_mul, Int.one_mul]
      omega
    refine ⟨_, rfl, _, rfl, _, rfl, x, L, _, _, rfl, lay6, fL, hD0, Nat.lt_of_lt_of_le bD (Nat.pow_le_pow_right (by decide) (by decide)), hcond, fun pl hrun => ?_⟩
    have hpb : ((pl : Nat) : Int).natAbs < 2 ^ 100 := by have := hrun.1; omega
    refine ⟨_, rfl, _, rfl, x, L, rfl, lay6, _, _, rfl, rfl, wide_mul (a := 801) (b := 100) hAb (by omega) (by decide) (by decide) (by decide), _, rfl, _, _, rfl, rfl, ?_⟩
    refine ⟨_, rfl, _, rfl, _, rfl, _, _, rfl, rfl, wide_mul (a := 100) (b := 841) hpb bD (by decide) (by decide) (by decide), _, _, rfl, rfl, ?_⟩
    refine ⟨_, rfl, _, rfl, x, L, pl, rfl, lay6, fL, hrun.1, fun H7 s7 => ⟨_, _, rfl, rfl, A * L.n + pl, left - (pl : Int) * durN (Ls.take k) - L.pt pl, some x, some (.int (durN (Ls.take k))), some (.int (pl : Int)), ?_, sm6.trans s7, s7 _ _ e7, ?_, ?_, fun r' hr' => ?_⟩⟩
    · show [some (V.ref a), some (V.int t), some (V.ref r), some (V.int ((A : Int) * L.cnt + (pl : Int))), some (V.int (left - (pl : Int) * durN (Ls.take k) - L.pt pl)), some x, some (V.int (durN (Ls.take k))), some (V.int (pl : Int))] = _
      rw [← cn]
      push_cast
      rfl
    · have := hrun.2.1
      omega
    · have h1 : attN (Ls.take k ++ [L]) = attN (Ls.take k) * L.n := by
        rw [attN_app]
        show _ * (L.n * 1) = _
        rw [Nat.mul_one]
      have p1 := hrun.1
      have h2 : (A * L.n + pl + 1) * attN (Ls.take k) ≤ ((A + 1) * L.n) * attN (Ls.take k) := Nat.mul_le_mul_right _ (by rw [Nat.add_mul, Nat.one_mul]; omega)
      rw [h1, Nat.mul_comm (attN (Ls.take k)), ← Nat.mul_assoc] at hA
      omega
    · have h1 : attN (Ls.take k ++ [L]) = attN (Ls.take k) * L.n := by
        rw [attN_app]
        show _ * (L.n * 1) = _
        rw [Nat.mul_one]
      have := hF _ (fs pl r' hrun hr')
      rw [h1] at this
      rw [Nat.add_mul, Nat.mul_assoc, Nat.mul_comm L.n, Nat.add_assoc]
      exact this
  · obtain ⟨A, left, y5, y6, y7, rfl, sm, hr4, hleft, hA, hF⟩ := h
    rw [hl, Nat.sub_self] at hleft hF
    have := hF 0 (first_nil hleft)
    rw [Nat.add_zero] at this
    refine ⟨_, rfl, ?_⟩
    have e8 : A * attN (Ls.take 0) = A := Nat.mul_one A
    rw [e8] at this
    exact q2 (by omega) H4 A sm this

end
end Rn
namespace Rn
open PySem PySem.Spec PyProof.Rows L2
section
variable {P : Program} {w : World} {K : PySem.W.Frag} {mg : Str → Option Value} {base : Heap}
def sp_law_pool (K : PySem.W.Frag) : Sp := fun vs H Q _ => ∃ (a : Addr) (ns : List Int) (i : Nat), vs = [.ref a, .int (i : Int)] ∧ SqL K H a (ns.map V.int) ∧ ns.length ≤ 63 ∧ i ≤ 100 ∧ ∀ H' p, Same H H' → H p = none → Rng H' p 0 → Q (.ref p) H'
theorem ok_law_pool (T : Txt K mg) : FnOk P w K mg base CX0 1 T.f_law_pool T.d_law_pool ["script", "at"] (sp_law_pool K) := by
  refine T.F_law_pool.ok sc_law_pool (fun vs H Q E h => ?_) (fun cdv A outer s H vs Q E hr h => ?_)
  · obtain ⟨a, ns, i, rfl, _⟩ := h
    rfl
  obtain ⟨a, ns, i, rfl, hS, hl, hi, q⟩ := h
  refine ⟨_, (pss_cons (ps_set (i := 2) sc_law_pool.nd rfl (Or.inl rfl) pe_int)
      (Evl.pss_cut (ps_if (pt_cmpR op_lt (pv 1) (pe_callB call_len_seq (by rfl) T.m_len PySem.boot_len (pa_cons (pv 0) pa_nil)) (nomark _))
      (pss_one (ps_set (i := 2) sc_law_pool.nd rfl (Or.inl rfl) (pe_ix ix_list (pv 0) (pv 1) (fun _ _ => rfl))))
      pss_nil)
      (pss_one (ps_ret (pe_lst (pa_cons (pe_callB (call_max2 rfl) (by rfl) T.m_max (by decide +kernel) (pa_cons pe_int (pa_cons (pe_op op_sub (pe_callB call_abs (by rfl) T.m_abs (by decide +kernel) (pa_cons (pv 2) pa_nil)) (pe_op op_pow pe_int pe_int)) pa_nil))) (pa_cons (pe_op op_add (pe_op op_mod (pv 2) pe_int) (pe_op op_mul pe_int (pe_op op_add (pv 1) pe_int))) (pa_cons pe_int pa_nil)))))))), ?_⟩
  refine ⟨fun σ' H' => ∃ c : Int, σ' = [some (.ref a), some (.int (i : Int)), some (.int c)] ∧ H' = H, ?_, fun σ' H' h => ?_⟩
  · refine ⟨_, rfl, _, rfl, a, _, rfl, .inl hS, _, _, rfl, rfl, _, rfl, ite2 (fun e => ?_) (fun _ => ⟨0, rfl, rfl⟩)⟩
    have e' : (i : Int) < ((ns.map V.int).length : Nat) := of_decide_eq_true e
    rw [List.length_map] at e'
    obtain ⟨x, _, _, hat⟩ := at_int (ns := ns) (i := (i : Int)) (by omega) (by omega)
    exact ⟨_, rfl, _, rfl, a, _, _, .int x, rfl, rfl, hS, hat, x, rfl, rfl⟩
  · obtain ⟨c, rfl, rfl⟩ := h
    have q2 : (0 : Int) < 2305843009213693951 := by decide
    have r0 := Int.emod_nonneg c (show (2305843009213693951 : Int) ≠ 0 by decide)
    have r1 := Int.emod_lt_of_pos c q2
    refine ⟨_, rfl, _, rfl, ?_⟩
    generalize (if c < 0 then -c else c) = ab
    refine ⟨_, _, rfl, rfl, ⟨by decide, by decide, by decide⟩, _, _, rfl, rfl, _, _, rfl, ?_⟩
    generalize (if ab - 10 ^ (18 : Int).toNat > 0 then ab - 10 ^ (18 : Int).toNat else 0) = dg
    refine ⟨_, rfl, _, _, rfl, rfl, q2, _, rfl, _, _, rfl, rfl, _, _, rfl, rfl, .inl ⟨by decide, by decide⟩, _, _, rfl, rfl, size_le (by show 3 ≤ 100000; decide), fun p hp => ?_⟩
    exact q _ p (same_new hp) hp ⟨dg, _, 0, upd_same, by omega, by omega, by decide, by decide⟩

end
end Rn
namespace Rn
open PySem PySem.Spec PyProof.Rows L2
section
variable {P : Program} {w : World} {K : PySem.W.Frag} {mg : Str → Option Value} {base : Heap}
def sp_law_draw (K : PySem.W.Frag) : Sp := fun vs H Q _ => ∃ (a : Addr) (n limit : Int), vs = [.ref a, .int limit] ∧ Rng H a n ∧ n ≤ 1000000000 ∧ Lim limit ∧
  ∀ H' r, Rdv a 1 H H' → 0 ≤ r → r < limit → Q (.int r) H'
theorem ok_law_draw (T : Txt K mg) : FnOk P w K mg base CX0 1 T.f_law_draw T.d_law_draw ["pool", "many"] (sp_law_draw K) := by
  refine T.F_law_draw.ok sc_law_draw (fun vs H Q E h => ?_) (fun cdv A outer s H vs Q E hr h => ?_)
  · obtain ⟨a, n, limit, rfl, _⟩ := h
    rfl
  obtain ⟨a, n, limit, rfl, hS, hn, hm, q⟩ := h
  have hm0 := hm.1
  refine ⟨_, (pss_cons (ps_if (pt_cmpR op_gt (pe_ix ix_list (pv 0) pe_int (fun _ _ => rfl)) pe_int (nomark _))
      (pss_cons (ps_set (i := 2) sc_law_draw.nd rfl (Or.inl rfl) (pe_op op_mod (pe_ix ix_list (pv 0) pe_int (fun _ _ => rfl)) (pv 1)))
      (pss_cons (ps_asg (pe_op op_fdivW (pe_ix ix_list (pv 0) pe_int (fun _ _ => rfl)) (pv 1)) (pg_sub (pv 0) pe_int set_list))
      (pss_one (ps_ret (pv 2)))))
      pss_nil)
      (pss_cons (ps_asg (pe_op op_add (pe_ix ix_list (pv 0) pe_int (fun _ _ => rfl)) pe_int) (pg_sub (pv 0) pe_int set_list))
      (pss_cons (ps_set (i := 3) sc_law_draw.nd rfl (Or.inl rfl) (pe_op op_mod (pe_op op_pow (pe_op op_add (pe_ix ix_list (pv 0) pe_int (fun _ _ => rfl)) (pe_op op_mul pe_int (pe_ix ix_list (pv 0) pe_int (fun _ _ => rfl)))) pe_int) pe_int))
      (pss_cons (ps_set (i := 3) sc_law_draw.nd rfl (Or.inl rfl) (pe_op op_mod (pe_op op_powW (pe_op op_add (pv 3) (pe_op op_mul pe_int (pe_ix ix_list (pv 0) pe_int (fun _ _ => rfl)))) pe_int) pe_int))
      (pss_one (ps_ret (pe_op op_mod (pe_op op_fdivW (pv 3) pe_int) (pv 1)))))))), ?_⟩
  obtain ⟨dg, seed, cnt, ha, s0, s1, c0, c1⟩ := hS
  have p1 : (0 : Int) < 162259276829213363391578010288127 := by decide
  have p2 : (0 : Int) < 170141183460469231731687303715884105727 := by decide
  -- if pool[0] > 0
  refine ⟨_, rfl, a, _, 0, _, rfl, rfl, sql ha, rfl, _, _, rfl, rfl, _, rfl, ite2 (fun e => ?_) (fun e => ?_)⟩
  · refine ⟨_, rfl, a, _, 0, _, rfl, rfl, sql ha, rfl, _, rfl, _, _, rfl, rfl, hm0, ?_⟩
    refine ⟨_, rfl, a, _, 0, _, rfl, rfl, sql ha, rfl, _, rfl, _, _, rfl, rfl, hm, _, rfl, a, _, 0, 0, rfl, rfl, ha, rfl, ?_⟩
    refine ⟨_, rfl, q _ _ (Rdv.made (dg' := dg / limit) (cnt' := cnt) ?_ ha upd_same (by omega) (by omega)) (Int.emod_nonneg _ (by omega)) (Int.emod_lt_of_pos _ hm0)⟩
    rw [hid_src1]
    exact Same.refl _
  · refine ⟨_, rfl, a, _, 2, _, rfl, rfl, sql ha, rfl, _, _, rfl, rfl, _, rfl, a, _, 2, 2, rfl, rfl, ha, rfl, ?_⟩
    have ha2 : (upd H a (.lst [.int dg, .int seed, .int (cnt + 1)])) a = some (.lst [.int dg, .int seed, .int (cnt + 1)]) := upd_same
    have sm2 : Same (hid a a H) (hid a a (upd H a (.lst [.int dg, .int seed, .int (cnt + 1)]))) := by rw [hid_src1]; exact Same.refl _
    show tSeq _ _ _ _ (upd H a (.lst [.int dg, .int seed, .int (cnt + 1)]))
    generalize upd H a (.lst [.int dg, .int seed, .int (cnt + 1)]) = H2 at *
    refine ⟨_, rfl, a, _, 1, _, rfl, rfl, sql ha2, rfl, _, rfl, a, _, 2, _, rfl, rfl, sql ha2, rfl, _, _, rfl, rfl, .inl ⟨by decide, by decide⟩, _, _, rfl, rfl, _, _, rfl, rfl, ⟨by decide, by decide, by omega⟩, _, _, rfl, rfl, p1, ?_⟩
    generalize (seed + 67867979 * (cnt + 1)) ^ (3 : Int).toNat = big
    have b0 := Int.emod_nonneg big (show (162259276829213363391578010288127 : Int) ≠ 0 by decide)
    have b1 := Int.emod_lt_of_pos big p1
    generalize big % 162259276829213363391578010288127 = mx at *
    refine ⟨_, rfl, _, rfl, a, _, 2, _, rfl, rfl, sql ha2, rfl, _, _, rfl, rfl, .inl ⟨by decide, by decide⟩, _, _, rfl, rfl, _, _, rfl, rfl, pow_ok5 (k := 120) (by omega) (by decide) (by decide), _, _, rfl, rfl, p2, ?_⟩
    refine ⟨_, rfl, _, _, rfl, rfl, wide_div (b := 21) (by decide) (by decide) (by decide) (by decide), _, rfl, _, _, rfl, rfl, hm0, ?_⟩
    exact q H2 _ (Rdv.made sm2 ha ha2 (by omega) (by omega)) (Int.emod_nonneg _ (by omega)) (Int.emod_lt_of_pos _ hm0)

end
end Rn
namespace Rn
open PySem PySem.Spec PyProof.Rows L2
section
variable {P : Program} {w : World} {K : PySem.W.Frag} {mg : Str → Option Value} {base : Heap}
def sp_law_size (K : PySem.W.Frag) : Sp := fun vs H Q _ => ∃ (v : V) (L : Lay), vs = [v] ∧ LayAt H v L ∧ Q (.int L.cnt) H
theorem ok_law_size (T : Txt K mg) : FnOk P w K mg base CX0 1 T.f_law_size T.d_law_size ["tier"] (sp_law_size K) := by
  refine T.F_law_size.ok sc_law_size (fun vs H Q E h => ?_) (fun cdv A outer s H vs Q E hr h => ?_)
  · obtain ⟨v, L, rfl, _⟩ := h
    rfl
  obtain ⟨v, L, rfl, hL, q⟩ := h
  refine ⟨_, (pss_one (ps_ret (pe_ifExp (pt_val (pe_callB call_isi (by rfl) T.m_isinstance (by decide +kernel) (pa_cons (pv 0) (pa_cons (pe_bltn (v := .ty "tuple") (by rfl) T.m_tuple (by decide +kernel) rfl) pa_nil)))) (pe_ix ix_tup (pv 0) pe_int (fun _ _ => rfl)) (pe_op op_add (pe_callB call_len_seq (by rfl) T.m_len PySem.boot_len (pa_cons (pv 0) pa_nil)) pe_int)))), ?_⟩
  cases L with
  | con wt n =>
    obtain ⟨p, rfl, hp⟩ := hL
    exact ⟨_, rfl, _, _, _, _, true, rfl, .ty "tuple", .base (.tup hp), kit_ty (by decide +kernel), true, rfl, iteT ⟨_, rfl, p, _, 1, _, rfl, rfl, sqt hp, rfl, q⟩⟩
  | pol ns =>
    obtain ⟨p, rfl, hp⟩ := hL
    refine ⟨_, rfl, _, _, _, _, false, rfl, .ty "tuple", .base (.lst hp), kit_ty (by decide +kernel), false, rfl, iteF ⟨_, rfl, p, _, rfl, .inl (sql hp), _, _, rfl, rfl, ?_⟩⟩
    rw [List.length_map]
    exact q

end
end Rn
namespace Rn
open PySem PySem.Spec PyProof.Rows L2
section
variable {P : Program} {w : World} {K : PySem.W.Frag} {mg : Str → Option Value} {base : Heap}
def sp_law_wait (K : PySem.W.Frag) : Sp := fun vs H Q _ => ∃ (a : Addr) (n : Int), vs = [.ref a] ∧ Rng H a n ∧ n ≤ 100000000 ∧ ∀ H' r, Rdv a 4 H H' → 0 ≤ r → r < 1000000000000 → Q (.int r) H'
theorem ok_law_wait (T : Txt K mg) : FnOk P w K mg base CX0 2 T.f_law_wait T.d_law_wait ["pool"] (sp_law_wait K) := by
  have G_law_draw := ok_law_draw (P := P) (w := w) (base := base) T
  refine T.F_law_wait.ok sc_law_wait (fun vs H Q E h => ?_) (fun cdv A outer s H vs Q E hr h => ?_)
  · obtain ⟨a, n, rfl, _⟩ := h
    rfl
  obtain ⟨a, n, rfl, hS, hn, q⟩ := h
  refine ⟨_, (pss_one (ps_ret (pe_ix ix_list (pe_lst (pa_cons pe_int (pa_cons pe_int (pa_cons pe_int (pa_cons pe_int (pa_cons (pe_call G_law_draw hr (by rfl) T.g_law_draw T.F_law_draw.kp T.b_law_draw .nil pass0 (pa_cons (pv 0) (pa_cons pe_int pa_nil))) (pa_cons (pe_call G_law_draw hr (by rfl) T.g_law_draw T.F_law_draw.kp T.b_law_draw .nil pass0 (pa_cons (pv 0) (pa_cons pe_int pa_nil))) (pa_cons (pe_call G_law_draw hr (by rfl) T.g_law_draw T.F_law_draw.kp T.b_law_draw .nil pass0 (pa_cons (pv 0) (pa_cons (pe_op op_pow pe_int pe_int) pa_nil))) pa_nil)))))))) (pe_call G_law_draw hr (by rfl) T.g_law_draw T.F_law_draw.kp T.b_law_draw .nil pass0 (pa_cons (pv 0) (pa_cons pe_int pa_nil))) (fun _ _ => rfl)))), ?_⟩
  have pw : (10 : Int) ^ (12 : Int).toNat = 1000000000000 := by decide
  refine ⟨_, rfl, a, _, 10, rfl, hS, by omega, lim (by decide) (by decide), fun H1 r1 A1 l1 u1 => ?_⟩
  have S1 := A1.src _ hS
  refine ⟨_, rfl, a, _, 1000, rfl, S1, by omega, lim (by decide) (by decide), fun H2 r2 A2 l2 u2 => ?_⟩
  have S2 := A2.src _ S1
  refine ⟨_, rfl, _, _, rfl, rfl, ⟨by decide, by decide, by decide⟩, a, _, _, rfl, S2, by omega, lim (by decide) (by decide), fun H3 r3 A3 l3 u3 => ⟨size_le (by show 7 ≤ 100000; decide), fun o ho => ?_⟩⟩
  rw [pw] at u3
  have S3 := A3.src _ S2
  have no := S3.new1 ho
  have A4 : Rdv a 3 H (upd H3 o (.lst [.int 0, .int 1, .int 2, .int 5, .int r1, .int r2, .int r3])) := (((A1.trans A2 (Int.le_refl _)).trans A3 (Int.le_refl _)).trans (Rdv.of (same_new ho)) (Int.le_refl _)).mono (by omega)
  have e4 : hid a a (upd H3 o (.lst [.int 0, .int 1, .int 2, .int 5, .int r1, .int r2, .int r3])) o = some (.lst (([0, 1, 2, 5, r1, r2, r3] : List Int).map V.int)) := by
    rw [hid_oth no no, upd_same]
    rfl
  have S4 := A4.src _ hS
  refine ⟨_, rfl, a, _, 7, rfl, S4, by omega, lim (by decide) (by decide), fun H5 r5 A5 l5 u5 => ?_⟩
  obtain ⟨x, hx, _, hat⟩ := at_int (ns := [0, 1, 2, 5, r1, r2, r3]) l5 u5
  have hb : 0 ≤ x ∧ x < 1000000000000 := by
    simp only [List.mem_cons, List.not_mem_nil, or_false] at hx
    omega
  exact ⟨o, _, r5, .int x, rfl, rfl, sql (hid_get (A5.same _ _ e4)).1, hat, q H5 x ((A4.trans A5 (Int.le_refl _)).mono (by omega)) hb.1 hb.2⟩

end
end Rn
namespace Rn
open PySem PySem.Spec PyProof.Rows L2
section
variable {P : Program} {w : World} {K : PySem.W.Frag} {mg : Str → Option Value} {base : Heap}
def sp_law_tier (K : PySem.W.Frag) : Sp := fun vs H Q _ => ∃ (a : Addr) (n most : Int), vs = [.ref a, .int most] ∧ Rng H a n ∧ n ≤ 10000000 ∧ 1 ≤ most ∧ most < 1000000000000000000000 ∧
  ∀ H' x L, Rdv a 100 H H' → H x = none → LayAt (hid a a H') (.ref x) L → L.nice → L.cnt ≤ most → Q (.ref x) H'
theorem ok_law_tier (T : Txt K mg) : FnOk P w K mg base CX0 3 T.f_law_tier T.d_law_tier ["pool", "most"] (sp_law_tier K) := by
  have G_law_draw := (ok_law_draw (P := P) (w := w) (base := base) T).mono (by decide : 1 ≤ 2)
  have G_law_wait := ok_law_wait (P := P) (w := w) (base := base) T
  refine T.F_law_tier.ok sc_law_tier (fun vs H Q E h => ?_) (fun cdv A outer s H vs Q E hr h => ?_)
  · obtain ⟨a, n, most, rfl, _⟩ := h
    rfl
  obtain ⟨a, n, most, rfl, hS, hn, m1, m2, q⟩ := h
  refine ⟨_, (pss_cons (ps_if (pt_cmpR op_eq (pe_call G_law_draw hr (by rfl) T.g_law_draw T.F_law_draw.kp T.b_law_draw .nil pass0 (pa_cons (pv 0) (pa_cons pe_int pa_nil))) pe_int (nomark _))
      (pss_one (ps_ret (pe_tup (pa_cons (pe_call G_law_wait hr (by rfl) T.g_law_wait T.F_law_wait.kp T.b_law_wait .nil pass0 (pa_cons (pv 0) pa_nil)) (pa_cons (pe_op op_add pe_int (pe_call G_law_draw hr (by rfl) T.g_law_draw T.F_law_draw.kp T.b_law_draw .nil pass0 (pa_cons (pv 0) (pa_cons (pv 1) pa_nil)))) pa_nil)))))
      pss_nil)
      (pss_cons (ps_set (i := 2) sc_law_tier.nd rfl (Or.inr rfl) (pe_lc (own := [("turn", 3)]) (g := gName 3) (tt := tYes) rfl sc_law_tier.nd (pi_range1 (by rfl) T.m_range (pa_cons (pe_op op_add pe_int (pe_call G_law_draw hr (by rfl) T.g_law_draw T.F_law_draw.kp T.b_law_draw .nil pass0 (pa_cons (pv 0) (pa_cons pe_int pa_nil)))) pa_nil)) (blkOk_by (N := ["pool", "most", "kinds", "turn"]) (sc := defScope s_law_tier) (by decide +kernel)) (fun _ _ _ _ _ => (pg_name (i := 3) sc_law_tier.nd rfl (Or.inl rfl))) (fun _ _ _ _ _ => pts_nil) (fun _ _ _ _ _ => (pe_call G_law_wait hr (by rfl) T.g_law_wait T.F_law_wait.kp T.b_law_wait .nil pass0 (pa_cons (pv 0) pa_nil)))))
      (pss_one (ps_ret (pe_lc (own := [("turn", 3)]) (g := gName 3) (tt := tYes) rfl sc_law_tier.nd (pi_range1 (by rfl) T.m_range (pa_cons (pe_call G_law_draw hr (by rfl) T.g_law_draw T.F_law_draw.kp T.b_law_draw .nil pass0 (pa_cons (pv 0) (pa_cons (pe_callB (call_min2 rfl) (by rfl) T.m_min (by decide +kernel) (pa_cons pe_int (pa_cons (pv 1) pa_nil))) pa_nil))) pa_nil)) (blkOk_by (N := ["pool", "most", "kinds", "turn"]) (sc := defScope s_law_tier) (by decide +kernel)) (fun _ _ _ _ _ => (pg_name (i := 3) sc_law_tier.nd rfl (Or.inl rfl))) (fun _ _ _ _ _ => pts_nil) (fun _ _ _ _ _ => (pe_ix (ix_listK (K := K) rfl) (pv 2) (pe_call G_law_draw hr (by rfl) T.g_law_draw T.F_law_draw.kp T.b_law_draw .nil pass0 (pa_cons (pv 0) (pa_cons (pe_callB (call_len_seqK (K := K) rfl) (by rfl) T.m_len PySem.boot_len (pa_cons (pv 2) pa_nil)) pa_nil))) (fun _ _ => rfl)))))))), ?_⟩
  refine ⟨_, rfl, a, _, 2, rfl, hS, by omega, lim (by decide) (by decide), fun H1 r1 A1 l1 u1 => ?_⟩
  have S1 := A1.src _ hS
  refine ⟨rfl, _, rfl, ite2 (fun _ => ?_) (fun _ => ?_)⟩
  · refine ⟨_, rfl, a, _, rfl, S1, by omega, fun H2 c A2 l2 u2 => ?_⟩
    have S2 := A2.src _ S1
    refine ⟨_, rfl, _, rfl, a, _, most, rfl, S2, by omega, lim (by omega) (by omega), fun H3 r3 A3 l3 u3 => ⟨_, _, rfl, rfl, size_le (by show 2 ≤ 100000; decide), fun t ht => ?_⟩⟩
    have S3 := A3.src _ S2
    have nt := S3.new1 ht
    have B3 : Rdv a 6 H H3 := ((A1.trans A2 (Int.le_refl _)).trans A3 (Int.le_refl _)).mono (by omega)
    exact q _ t (.con c (1 + r3)) ((B3.trans (Rdv.of (same_new ht)) (Int.le_refl _)).mono (by omega)) (B3.free hS ht) ⟨t, rfl, by rw [hid_oth nt nt, upd_same]⟩ (Lay.nice_con l2 u2 (by omega) (by omega)) (by show 1 + r3 ≤ most; omega)
  · -- kinds
    refine ⟨_, rfl, a, _, 4, rfl, S1, by omega, lim (by decide) (by decide), fun H2 r2 A2 l2 u2 => ⟨_, _, rfl, rfl, _, rfl, by omega, by omega, fun D hD => ?_⟩⟩
    have B2 : Rdv a 2 H H2 := (A1.trans A2 (Int.le_refl _)).mono (by omega)
    have S2 := B2.src _ hS
    have nD := S2.new1 hD
    have fD : H D = none := B2.free hS hD
    refine lc_range (lo := 0) (n := (1 + r2).toNat) (fun i H' => ∃ ks : List Int, hid a a H' D = some (.lst (ks.map V.int)) ∧ ks.length = i ∧ (∀ x ∈ ks, 0 ≤ x ∧ x < 1000000000000) ∧ Rdv a (2 + 4 * i) H H')
      ⟨[], by rw [hid_oth nD nD, upd_same]; rfl, rfl, (fun _ z => nomatch z), (B2.trans (Rdv.of (same_new hD)) (Int.le_refl _)).mono (by omega)⟩ (fun i H4 hi h => ?_) (fun H4 h => ?_)
    · obtain ⟨ks, hk, hkl, hkb, A4⟩ := h
      have S4 := A4.src _ hS
      refine ⟨rfl, _, rfl, a, _, rfl, S4, by omega, fun H5 x A5 l5 u5 => ?_⟩
      refine ⟨_, (hid_get (A5.same _ _ hk)).1, size_lt (by rw [List.length_map]; omega), ks ++ [x], by rw [hid_oth nD nD, upd_same, List.map_append]; rfl, by rw [List.length_append, hkl]; rfl, fun y hy => ?_, ((A4.trans A5 (Int.le_refl _)).mut hS fD).mono (by omega)⟩
      rcases List.mem_append.mp hy with z | z
      · exact hkb y z
      · rw [List.mem_singleton.mp z]
        exact ⟨l5, u5⟩
    · obtain ⟨ks, hk, hkl, hkb, A4⟩ := h
      have A4' : Rdv a 18 H H4 := A4.mono (by omega)
      have S4 := A4'.src _ hS
      have mn : ∃ mx : Int, (if most < 60 then most else 60) = mx ∧ 1 ≤ mx ∧ mx ≤ most ∧ mx ≤ 60 := ⟨_, rfl, by split <;> omega, by split <;> omega, by split <;> omega⟩
      obtain ⟨mx, emx, mx0, mx1, mx2⟩ := mn
      refine ⟨_, rfl, _, rfl, _, _, rfl, ?_⟩
      rw [emx]
      refine ⟨a, _, mx, rfl, S4, by omega, lim (by omega) (by omega), fun H5 sz A5 l5 u5 => ⟨_, rfl, by omega, by omega, fun C hC => ?_⟩⟩
      have B5 : Rdv a 19 H H5 := (A4'.trans A5 (Int.le_refl _)).mono (by omega)
      have S5 := B5.src _ hS
      have hk5 := A5.same _ _ hk
      have nC := S5.new1 hC
      have fC : H C = none := B5.free hS hC
      have nDC : D ≠ C := fun z => by rw [z, hid_none hC] at hk5; cases hk5
      refine lc_range (lo := 0) (n := sz.toNat) (fun i H' => ∃ us : List Int, hid a a H' C = some (.lst (us.map V.int)) ∧ us.length = i ∧ (∀ x ∈ us, 0 ≤ x ∧ x < 1000000000000) ∧ hid a a H' D = some (.lst (ks.map V.int)) ∧ Rdv a (19 + i) H H')
        ⟨[], by rw [hid_oth nC nC, upd_same]; rfl, rfl, (fun _ z => nomatch z), hid_same (same_new hC) _ _ hk5, (B5.trans (Rdv.of (same_new hC)) (Int.le_refl _)).mono (by omega)⟩ (fun i H6 hi h => ?_) (fun H6 h => ?_)
      · obtain ⟨us, hu, hul, hub, hkk, A6⟩ := h
        have S6 := A6.src _ hS
        refine ⟨rfl, _, rfl, _, rfl, _, rfl, D, _, rfl, .inl (sql (hid_get hkk).1), a, _, _, rfl, S6, by omega, lim (by rw [List.length_map]; omega) (by rw [List.length_map]; omega), fun H7 r7 A7 l7 u7 => ?_⟩
        rw [List.length_map] at u7
        obtain ⟨x, hx, _, hat⟩ := at_int (ns := ks) l7 u7
        have hxb := hkb x hx
        have hk7 := A7.same _ _ hkk
        refine ⟨D, _, r7, .int x, rfl, rfl, sql (hid_get hk7).1, hat, ?_⟩
        refine ⟨_, (hid_get (A7.same _ _ hu)).1, size_lt (by rw [List.length_map]; omega), us ++ [x], by rw [hid_oth nC nC, upd_same, List.map_append]; rfl, by rw [List.length_append, hul]; rfl, fun y hy => ?_, by rw [hid_oth nC nC, upd_ne nDC]; exact hk7, ((A6.trans A7 (Int.le_refl _)).mut hS fC).mono (by omega)⟩
        rcases List.mem_append.mp hy with z | z
        · exact hub y z
        · rw [List.mem_singleton.mp z]
          exact hxb
      · obtain ⟨us, hu, hul, hub, hkk, A6⟩ := h
        exact q H6 C (.pol us) (A6.mono (by omega)) fC ⟨C, rfl, hu⟩ (Lay.nice_pol (by omega) hub) (by show (us.length : Int) + 1 ≤ most; omega)

end
end Rn
namespace Rn
open PySem PySem.Spec PyProof.Rows L2
section
variable {P : Program} {w : World} {K : PySem.W.Frag} {mg : Str → Option Value} {base : Heap}
def sp_law_large (K : PySem.W.Frag) : Sp := fun vs H Q _ => ∃ (a : Addr) (n : Int), vs = [.ref a] ∧ Rng H a n ∧ n ≤ 1000000 ∧
  ∀ H' p us Ls, Rdv a 1000 H H' → H p = none → NestV H (hid a a H') p us Ls → 1 ≤ Ls.length → Ls.length ≤ 8 → (∀ L ∈ Ls, L.nice) → Q (.ref p) H'
theorem ok_law_large (T : Txt K mg) : FnOk P w K mg base CX0 4 T.f_law_large T.d_law_large ["pool"] (sp_law_large K) := by
  have G_law_draw := (ok_law_draw (P := P) (w := w) (base := base) T).mono (by decide : 1 ≤ 3)
  have G_law_tier := ok_law_tier (P := P) (w := w) (base := base) T
  refine T.F_law_large.ok sc_law_large (fun vs H Q E h => ?_) (fun cdv A outer s H vs Q E hr h => ?_)
  · obtain ⟨a, n, rfl, _⟩ := h
    rfl
  obtain ⟨a, n, rfl, hS, hn, q⟩ := h
  refine ⟨_, (pss_cons (ps_set (i := 1) sc_law_large.nd rfl (Or.inl rfl) (pe_lst pa_nil))
      (pss_cons (ps_for PassesOwn.never rfl (pi_range1 (by rfl) T.m_range (pa_cons (pe_op op_add pe_int (pe_call G_law_draw hr (by rfl) T.g_law_draw T.F_law_draw.kp T.b_law_draw .nil pass0 (pa_cons (pv 0) (pa_cons pe_int pa_nil)))) pa_nil)) (pg_name (i := 2) sc_law_large.nd rfl (Or.inl rfl))
      (pss_one (ps_expr (pe_bm PySem.F.plainAttrs_list PySem.F.slot_list_append PySem.F.type_list_append mt_append (pv 1) (pa_cons (pe_call G_law_tier hr (by rfl) T.g_law_tier T.F_law_tier.kp T.b_law_tier .nil pass0 (pa_cons (pv 0) (pa_cons (pe_ix ix_list (pe_lst (pa_cons pe_int (pa_cons pe_int (pa_cons (pe_op op_sub (pe_op op_pow pe_int pe_int) pe_int) pa_nil)))) (pe_call G_law_draw hr (by rfl) T.g_law_draw T.F_law_draw.kp T.b_law_draw .nil pass0 (pa_cons (pv 0) (pa_cons pe_int pa_nil))) (fun _ _ => rfl)) pa_nil))) pa_nil)))))
      (pss_one (ps_ret (pv 1))))), ?_⟩
  have pw : (10 : Int) ^ (20 : Int).toNat = 100000000000000000000 := by decide
  refine ⟨Nat.zero_le _, fun p hp => ?_⟩
  have np := hS.new1 hp
  have A1 : Rdv a 0 H (upd H p (.lst [])) := Rdv.of (same_new hp)
  have e1 : hid a a (upd H p (.lst [])) p = some (.lst []) := by rw [hid_oth np np, upd_same]
  have S1 := A1.src _ hS
  generalize upd H p (.lst []) = H1 at *
  refine ⟨_, rfl, a, _, 8, rfl, S1, by omega, lim (by decide) (by decide), fun H2 r2 A2 l2 u2 => ⟨_, _, rfl, rfl, _, rfl, by omega, by omega, ?_⟩⟩
  refine for_range (lo := 0) (n := (1 + r2).toNat) (fun i σ H' => ∃ us Ls y2, σ = [some (.ref a), some (.ref p), y2] ∧ NestV H (hid a a H') p us Ls ∧ Ls.length = i ∧ (∀ L ∈ Ls, L.nice) ∧ Rdv a (1 + 110 * i) H H')
    ⟨[], [], none, rfl, NestV.nil (A2.same _ _ e1), rfl, (fun _ z => nomatch z), (A1.trans A2 (Int.le_refl _)).mono (by omega)⟩ (fun i σ H3 hi h => ?_) (fun σ H3 h => ?_)
  · obtain ⟨us, Ls, y2, rfl, hv, hlen, hnice, A3⟩ := h
    have S3 := A3.src n hS
    have lus : us.length = i := by rw [hv.2.1]; exact hlen
    refine ⟨_, rfl, .inl ⟨rfl, _, sql (hid_get hv.1).1⟩, _, rfl, _, _, rfl, rfl, ⟨by decide, by decide, by decide⟩, _, _, rfl, rfl, size_le (by show 3 ≤ 100000; decide), fun o ho => ?_⟩
    rw [pw]
    have no := S3.new1 ho
    have A4 : Rdv a 0 H3 (upd H3 o (.lst [.int 3, .int 61, .int (100000000000000000000 - 1)])) := Rdv.of (same_new ho)
    have ho4 : hid a a (upd H3 o (.lst [.int 3, .int 61, .int (100000000000000000000 - 1)])) o = some (.lst (([3, 61, 100000000000000000000 - 1] : List Int).map V.int)) := by
      rw [hid_oth no no, upd_same]
      rfl
    have S4 := A4.src _ S3
    generalize upd H3 o (.lst [.int 3, .int 61, .int (100000000000000000000 - 1)]) = H4 at *
    refine ⟨_, rfl, a, _, 3, rfl, S4, by omega, lim (by decide) (by decide), fun H5 r5 A5 l5 u5 => ?_⟩
    obtain ⟨m1, hm1', _, hat1⟩ := at_int (ns := [3, 61, 100000000000000000000 - 1]) l5 u5
    have hm1b : 1 ≤ m1 ∧ m1 < 1000000000000000000000 := by
      simp only [List.mem_cons, List.not_mem_nil, or_false] at hm1'
      omega
    have S5 := A5.src _ S4
    refine ⟨o, _, r5, .int m1, rfl, rfl, sql (hid_get (A5.same _ _ ho4)).1, hat1, a, _, m1, rfl, S5, by omega, by omega, by omega, fun H6 x L A6 f6 e6 n6 c6 => ?_⟩
    have B5 : Rdv a 1 H3 H5 := (A4.trans A5 (Int.le_refl _)).mono (by omega)
    have B6 : Rdv a 101 H3 H6 := (B5.trans A6 (Int.le_refl _)).mono (by omega)
    have xp : x ≠ p := fun z => by
      have := (hid_get (B5.same _ _ hv.1)).1
      rw [← z, f6] at this
      cases this
    have xH : H x = none := (A3.trans B5 (Int.le_refl _)).free hS f6
    have hv6 := hv.same B6.same
    have B7 : Rdv a (1 + 110 * (i + 1 : Nat)) H H6 := (A3.trans B6 (Int.le_refl _)).mono (by omega)
    refine ⟨p, us, _, rfl, rfl, (hid_get hv6.1).1, size_lt (by omega), us ++ [.ref x], Ls ++ [L], _, rfl, ?_, by rw [List.length_append, hlen]; rfl, ?_, B7.mut hS hp⟩
    · rw [hid_oth np np]
      exact hv6.push e6 xp xH
    · intro M hM
      rcases List.mem_append.mp hM with z | z
      · exact hnice M z
      · rw [List.mem_singleton.mp z]
        exact n6
  · obtain ⟨us, Ls, y2, rfl, hv, hlen, hnice, A3⟩ := h
    exact ⟨_, rfl, q H3 p us Ls (A3.mono (by omega)) hp hv (by omega) (by omega) hnice⟩

end
end Rn
namespace Rn
open PySem PySem.Spec PyProof.Rows L2
section
variable {P : Program} {w : World} {K : PySem.W.Frag} {mg : Str → Option Value} {base : Heap}
def sp_law_sum_in (K : PySem.W.Frag) : Sp := fun vs H Q _ => ∃ (v : V) (L : Lay) (j : Nat), vs = [v, .int (j : Int)] ∧ LayAt H v L ∧ L.fair ∧ j < L.n ∧ ∀ H', Same H H' → Q (.int (L.pt j)) H'
theorem ok_law_sum_in (T : Txt K mg) : FnOk P w K mg base CX0 1 T.f_law_sum_in T.d_law_sum_in ["tier", "part"] (sp_law_sum_in K) := by
  refine T.F_law_sum_in.ok sc_law_sum_in (fun vs H Q E h => ?_) (fun cdv A outer s H vs Q E hr h => ?_)
  · obtain ⟨v, L, j, rfl, _⟩ := h
    rfl
  obtain ⟨v, L, j, rfl, hL, hf, h2, q⟩ := h
  refine ⟨_, (pss_one (ps_ret (pe_ifExp (pt_val (pe_callB call_isi (by rfl) T.m_isinstance (by decide +kernel) (pa_cons (pv 0) (pa_cons (pe_bltn (v := .ty "tuple") (by rfl) T.m_tuple (by decide +kernel) rfl) pa_nil)))) (pe_op op_mulW (pe_ix ix_tup (pv 0) pe_int (fun _ _ => rfl)) (pv 1)) (pe_callB (cr_sum rfl) (by rfl) T.m_sum (by decide +kernel) (pa_cons (pe_slice sl_list (pv 0) po_none (po_some (pv 1))) pa_nil))))), ?_⟩
  obtain ⟨hok, hc, hf⟩ := hf
  cases L with
  | con wt n =>
    obtain ⟨p, rfl, hp⟩ := hL
    have hn := Lay.n_cnt hok
    have e : (Lay.con wt n).cnt = n := rfl
    rw [e] at hc hn
    exact ⟨_, rfl, _, _, _, _, true, rfl, .ty "tuple", .base (.tup hp), kit_ty (by decide +kernel), true, rfl, iteT ⟨_, rfl, p, _, 0, _, rfl, rfl, sqt hp, rfl, _, rfl, _, _, rfl, rfl, wide_mul (a := 40) (b := 100) (by omega) (by omega) (by decide) (by decide) (by decide), q H (Same.refl H)⟩⟩
  | pol ns =>
    obtain ⟨p, rfl, hp⟩ := hL
    refine ⟨_, rfl, _, _, _, _, false, rfl, .ty "tuple", .base (.lst hp), kit_ty (by decide +kernel), false, rfl, iteF ⟨_, rfl, _, rfl, _, rfl, p, _, rfl, sql hp, fun b hb => ?_⟩⟩
    rw [cut_n, ← List.map_take]
    exact ⟨b, ns.take j, rfl, sql upd_same, q _ (same_new hb)⟩

end
end Rn
namespace Rn
open PySem PySem.Spec PyProof.Rows L2
section
variable {P : Program} {w : World} {K : PySem.W.Frag} {mg : Str → Option Value} {base : Heap}
def sp_law_number (K : PySem.W.Frag) : Sp := fun vs H Q _ => ∃ (p r : Addr) (Ls : List Lay) (ps : List Nat), vs = [.ref p, .ref r] ∧ NestAt H p Ls ∧ H r = some (.lst ((nI ps).map V.int)) ∧ Pts Ls ps ∧ (∀ L ∈ Ls, L.ok = true ∧ L.cnt < 2 ^ 100) ∧ Ls.length ≤ 8 ∧
  ∀ H', Same H H' → Q (.int (numL Ls ps : Int)) H'
theorem ok_law_number (T : Txt K mg) : FnOk P w K mg base CX0 2 T.f_law_number T.d_law_number ["layers", "parts"] (sp_law_number K) := by
  have G_law_size := ok_law_size (P := P) (w := w) (base := base) T
  refine T.F_law_number.ok sc_law_number (fun vs H Q E h => ?_) (fun cdv A outer s H vs Q E hr h => ?_)
  · obtain ⟨p, r, Ls, ps, rfl, _⟩ := h
    rfl
  obtain ⟨p, r, Ls, ps, rfl, hN, hR, hP, good, hl8, q⟩ := h
  refine ⟨_, (pss_cons (ps_asg (pe_tup (pa_cons pe_int (pa_cons pe_int pa_nil))) (pg_tup rfl (pgs_cons (pg_name (i := 2) sc_law_number.nd rfl (Or.inl rfl)) (pgs_cons (pg_name (i := 3) sc_law_number.nd rfl (Or.inl rfl)) pgs_nil))))
      (pss_cons (ps_for PassesOwn.never rfl (pi_zip (by rfl) T.m_zip (pa_cons (pv 0) (pa_cons (pv 1) pa_nil))) (pg_tup rfl (pgs_cons (pg_name (i := 4) sc_law_number.nd rfl (Or.inl rfl)) (pgs_cons (pg_name (i := 5) sc_law_number.nd rfl (Or.inl rfl)) pgs_nil)))
      (pss_cons (ps_set (i := 2) sc_law_number.nd rfl (Or.inl rfl) (pe_op op_add (pv 2) (pe_op op_mulW (pv 5) (pv 3))))
      (pss_one (ps_set (i := 3) sc_law_number.nd rfl (Or.inl rfl) (pe_op op_mulW (pv 3) (pe_call G_law_size hr (by rfl) T.g_law_size T.F_law_size.kp T.b_law_size .nil pass0 (pa_cons (pv 4) pa_nil)))))))
      (pss_one (ps_ret (pv 2))))), ?_⟩
  obtain ⟨us, hv, hl, hat⟩ := hN
  refine ⟨size_le (by show 2 ≤ 100000; decide), fun b hb => ⟨b, _, rfl, sqt upd_same, rfl, _, _, rfl, _, _, rfl, rfl, ?_⟩⟩
  have sb := same_new (o := .tup [.int 0, .int 1]) hb
  generalize upd H b (.tup [.int 0, .int 1]) = H1 at *
  have hpl := hP.len
  refine ⟨_, rfl, _, rfl, p, r, _, _, rfl, sql (sb _ _ hv), sql (sb _ _ hR), RZ.for_zipL (xs := us) (ys := (nI ps).map V.int) (by unfold nI; rw [List.length_map, List.length_map]; omega) (fun i σ H' => ∃ y4 y5, σ = [some (.ref p), some (.ref r), some (.int (numL (Ls.take i) (ps.take i) : Int)), some (.int (attOf (Ls.take i))), y4, y5] ∧ Same H1 H')
    ⟨none, none, rfl, Same.refl _⟩ (fun i σ H' h => by obtain ⟨_, _, _, sm⟩ := h; exact ⟨sql (sm _ _ (sb _ _ hv)), sql (sm _ _ (sb _ _ hR))⟩) (fun i x y t σ H2 hx hy h nt => ?_) (fun σ H2 h => ?_)⟩
  · obtain ⟨y4, y5, rfl, sm⟩ := h
    have hi : i < Ls.length := by
      rw [← hl]
      exact (List.getElem?_eq_some_iff.mp hx).1
    have hi' := List.getElem?_eq_getElem hi
    have tk : Ls.take (i + 1) = Ls.take i ++ [Ls[i]] := by rw [List.take_add_one, hi']; rfl
    obtain ⟨m, hm, ml⟩ := hP.get hi'
    have hy' : y = .int (m : Int) := by
      unfold nI at hy
      rw [List.map_map, List.getElem?_map, hm] at hy
      exact (Option.some.inj hy).symm
    subst hy'
    have tp : ps.take (i + 1) = ps.take i ++ [m] := by rw [List.take_add_one, hm]; rfl
    have st := same_new (o := .tup [x, .int (m : Int)]) nt
    have lay := ((hat i x _ hx hi').same sb).same (sm.trans st)
    have gL := good _ (List.getElem_mem hi)
    have okT : ∀ L ∈ Ls.take i, L.ok = true ∧ L.cnt < 2 ^ 100 := fun L hL => good L (List.mem_of_mem_take hL)
    have b1 := big8 okT (m := 8) (by rw [List.length_take]; omega)
    have hA := attN_of (Ls := Ls.take i) fun L hL => (okT L hL).1
    have ns := numL_snoc (hP.take i) Ls[i] m
    generalize Ls[i] = L at *
    have c1 := LayAt.con_pos gL.1
    have cn := Lay.n_cnt gL.1
    refine ⟨t, _, rfl, sqt upd_same, rfl, _, _, rfl, _, _, rfl, rfl, ?_⟩
    generalize upd H2 t (.tup [x, .int (m : Int)]) = H3 at *
    refine ⟨_, rfl, _, rfl, _, rfl, _, _, rfl, rfl, wide_mul (a := 100) (b := 801) (by omega) b1.2 (by decide) (by decide) (by decide), _, _, rfl, rfl, ?_⟩
    refine ⟨_, rfl, _, rfl, x, L, rfl, lay, _, _, rfl, rfl, wide_mul (a := 801) (b := 100) b1.2 (by omega) (by decide) (by decide) (by decide), some x, some (.int (m : Int)), ?_, sm.trans st⟩
    rw [tk, tp, ns, attOf_snoc]
    show [some (V.ref p), some (V.ref r), some (V.int ((numL (Ls.take i) (ps.take i) : Int) + (m : Int) * attOf (Ls.take i))), some (V.int (attOf (Ls.take i) * L.cnt)), some x, some (V.int (m : Int))] = _
    rw [← hA]
    push_cast
    rfl
  · obtain ⟨y4, y5, rfl, sm⟩ := h
    rw [hl, List.take_length, ← hpl, List.take_length]
    exact ⟨_, rfl, q H2 (sb.trans sm)⟩

end
end Rn
namespace Rn
open PySem PySem.Spec PyProof.Rows L2
section
variable {P : Program} {w : World} {K : PySem.W.Frag} {mg : Str → Option Value} {base : Heap}
def sp_law_time (K : PySem.W.Frag) : Sp := fun vs H Q _ => ∃ (p r : Addr) (Ls : List Lay) (ps : List Nat), vs = [.ref p, .ref r] ∧ NestAt H p Ls ∧ H r = some (.lst ((nI ps).map V.int)) ∧ Pts Ls ps ∧ (∀ L ∈ Ls, L.fair) ∧ Ls.length ≤ 8 ∧
  ∀ H', Same H H' → Q (.int (timeN Ls (numL Ls ps))) H'
theorem ok_law_time (T : Txt K mg) : FnOk P w K mg base CX0 2 T.f_law_time T.d_law_time ["layers", "parts"] (sp_law_time K) := by
  have G_law_size := ok_law_size (P := P) (w := w) (base := base) T
  have G_law_sum_in := ok_law_sum_in (P := P) (w := w) (base := base) T
  refine T.F_law_time.ok sc_law_time (fun vs H Q E h => ?_) (fun cdv A outer s H vs Q E hr h => ?_)
  · obtain ⟨p, r, Ls, ps, rfl, _⟩ := h
    rfl
  obtain ⟨p, r, Ls, ps, rfl, hN, hR, hP, fair, hl8, q⟩ := h
  refine ⟨_, (pss_cons (ps_asg (pe_tup (pa_cons pe_int (pa_cons pe_int pa_nil))) (pg_tup rfl (pgs_cons (pg_name (i := 2) sc_law_time.nd rfl (Or.inl rfl)) (pgs_cons (pg_name (i := 3) sc_law_time.nd rfl (Or.inl rfl)) pgs_nil))))
      (pss_cons (ps_for PassesOwn.never rfl (pi_zip (by rfl) T.m_zip (pa_cons (pv 0) (pa_cons (pv 1) pa_nil))) (pg_tup rfl (pgs_cons (pg_name (i := 4) sc_law_time.nd rfl (Or.inl rfl)) (pgs_cons (pg_name (i := 5) sc_law_time.nd rfl (Or.inl rfl)) pgs_nil)))
      (pss_cons (ps_set (i := 2) sc_law_time.nd rfl (Or.inl rfl) (pe_op op_add (pe_op op_add (pv 2) (pe_op op_mulW (pv 5) (pv 3))) (pe_call G_law_sum_in hr (by rfl) T.g_law_sum_in T.F_law_sum_in.kp T.b_law_sum_in .nil pass0 (pa_cons (pv 4) (pa_cons (pv 5) pa_nil)))))
      (pss_one (ps_set (i := 3) sc_law_time.nd rfl (Or.inl rfl) (pe_op op_add (pe_op op_mulW (pe_call G_law_size hr (by rfl) T.g_law_size T.F_law_size.kp T.b_law_size .nil pass0 (pa_cons (pv 4) pa_nil)) (pv 3)) (pe_call G_law_sum_in hr (by rfl) T.g_law_sum_in T.F_law_sum_in.kp T.b_law_sum_in .nil pass0 (pa_cons (pv 4) (pa_cons (pe_op op_sub (pe_call G_law_size hr (by rfl) T.g_law_size T.F_law_size.kp T.b_law_size .nil pass0 (pa_cons (pv 4) pa_nil)) pe_int) pa_nil))))))))
      (pss_one (ps_ret (pv 2))))), ?_⟩
  obtain ⟨us, hv, hl, hat⟩ := hN
  refine ⟨size_le (by show 2 ≤ 100000; decide), fun b hb => ⟨b, _, rfl, sqt upd_same, rfl, _, _, rfl, _, _, rfl, rfl, ?_⟩⟩
  have sb := same_new (o := .tup [.int 0, .int 0]) hb
  generalize upd H b (.tup [.int 0, .int 0]) = H1 at *
  have hpl := hP.len
  refine ⟨_, rfl, _, rfl, p, r, _, _, rfl, sql (sb _ _ hv), sql (sb _ _ hR), RZ.for_zipL (xs := us) (ys := (nI ps).map V.int) (by unfold nI; rw [List.length_map, List.length_map]; omega) (fun i σ H' => ∃ y4 y5, σ = [some (.ref p), some (.ref r), some (.int (timeN (Ls.take i) (numL (Ls.take i) (ps.take i)))), some (.int (durN (Ls.take i))), y4, y5] ∧ Same H1 H')
    ⟨none, none, rfl, Same.refl _⟩ (fun i σ H' h => by obtain ⟨_, _, _, sm⟩ := h; exact ⟨sql (sm _ _ (sb _ _ hv)), sql (sm _ _ (sb _ _ hR))⟩) (fun i x y t σ H2 hx hy h nt => ?_) (fun σ H2 h => ?_)⟩
  · obtain ⟨y4, y5, rfl, sm⟩ := h
    have hi : i < Ls.length := by
      rw [← hl]
      exact (List.getElem?_eq_some_iff.mp hx).1
    have hi' := List.getElem?_eq_getElem hi
    have tk : Ls.take (i + 1) = Ls.take i ++ [Ls[i]] := by rw [List.take_add_one, hi']; rfl
    obtain ⟨m, hm, ml⟩ := hP.get hi'
    have hy' : y = .int (m : Int) := by
      unfold nI at hy
      rw [List.map_map, List.getElem?_map, hm] at hy
      exact (Option.some.inj hy).symm
    subst hy'
    have tp : ps.take (i + 1) = ps.take i ++ [m] := by rw [List.take_add_one, hm]; rfl
    have st := same_new (o := .tup [x, .int (m : Int)]) nt
    have lay := ((hat i x _ hx hi').same sb).same (sm.trans st)
    have fL := fair _ (List.getElem_mem hi)
    have fairT : ∀ L ∈ Ls.take i, L.fair := fun L hL => fair L (List.mem_of_mem_take hL)
    have okT : ∀ L ∈ Ls.take i, L.ok = true := fun L hL => (fairT L hL).1
    have ap := attN_pos okT
    have bT := (time_big (m := 8) (i := attN (Ls.take i) - 1) fairT (by rw [List.length_take]; omega) (by omega)).2
    have bD : (durN (Ls.take i)).natAbs < 2 ^ 841 := bT
    have ns := numL_snoc (hP.take i) Ls[i] m
    have ts := time_snoc (L := Ls[i]) (part := m) ml okT (numL_lt (hP.take i))
    have ds := dur_snoc (L := Ls[i]) fL.1 okT
    generalize Ls[i] = L at *
    have c1 := LayAt.con_pos fL.1
    have cn := Lay.n_cnt fL.1
    have c2 := fL.2.1
    refine ⟨t, _, rfl, sqt upd_same, rfl, _, _, rfl, _, _, rfl, rfl, ?_⟩
    generalize upd H2 t (.tup [x, .int (m : Int)]) = H3 at *
    refine ⟨_, rfl, _, rfl, _, rfl, _, _, rfl, rfl, wide_mul (a := 100) (b := 841) (by omega) bD (by decide) (by decide) (by decide), _, _, rfl, rfl, ?_⟩
    refine ⟨_, rfl, _, rfl, x, L, m, rfl, lay, fL, ml, fun H4 s4 => ⟨_, _, rfl, rfl, ?_⟩⟩
    refine ⟨_, rfl, x, L, rfl, lay.same s4, _, rfl, _, _, rfl, rfl, wide_mul (a := 100) (b := 841) (by omega) bD (by decide) (by decide) (by decide), ?_⟩
    refine ⟨_, rfl, _, rfl, x, L, rfl, lay.same s4, _, _, rfl, rfl, x, L, L.n - 1, by rw [show ((L.n - 1 : Nat) : Int) = L.cnt - 1 by omega]; rfl, lay.same s4, fL, by omega, fun H5 s5 => ⟨_, _, rfl, rfl, some x, some (.int (m : Int)), ?_, (sm.trans st).trans (s4.trans s5)⟩⟩
    rw [tk, tp, ns, ts, ds]
    rfl
  · obtain ⟨y4, y5, rfl, sm⟩ := h
    rw [hl, List.take_length, ← hpl, List.take_length]
    exact ⟨_, rfl, q H2 (sb.trans sm)⟩

end
end Rn
namespace Rn
open PySem PySem.Spec PyProof.Rows L2
section
variable {P : Program} {w : World} {K : PySem.W.Frag} {mg : Str → Option Value} {base : Heap}
def sp_law_parts (K : PySem.W.Frag) : Sp := fun vs H Q _ => ∃ (a p : Addr) (n : Int) (Ls : List Lay), vs = [.ref a, .ref p] ∧ Rng H a n ∧ n ≤ 1000000 ∧ NestAt (hid a a H) p Ls ∧ (∀ L ∈ Ls, L.ok = true ∧ L.cnt < 2 ^ 100) ∧ Ls.length ≤ 8 ∧
  ∀ H' r ps, Rdv a 30 H H' → H r = none → hid a a H' r = some (.lst ((nI ps).map V.int)) → Pts Ls ps → Q (.ref r) H'
theorem ok_law_parts (T : Txt K mg) : FnOk P w K mg base CX0 2 T.f_law_parts T.d_law_parts ["pool", "layers"] (sp_law_parts K) := by
  have G_law_draw := ok_law_draw (P := P) (w := w) (base := base) T
  have G_law_size := ok_law_size (P := P) (w := w) (base := base) T
  refine T.F_law_parts.ok sc_law_parts (fun vs H Q E h => ?_) (fun cdv A outer s H vs Q E hr h => ?_)
  · obtain ⟨a, p, n, Ls, rfl, _⟩ := h
    rfl
  obtain ⟨a, p, n, Ls, rfl, hS, hn, hN, good, hl8, q⟩ := h
  refine ⟨_, (pss_cons (ps_set (i := 2) sc_law_parts.nd rfl (Or.inl rfl) (pe_lst pa_nil))
      (pss_cons (ps_for PassesOwn.never rfl (pi_list (pv 1)) (pg_name (i := 3) sc_law_parts.nd rfl (Or.inl rfl))
      (pss_cons (ps_set (i := 4) sc_law_parts.nd rfl (Or.inl rfl) (pe_call G_law_size hr (by rfl) T.g_law_size T.F_law_size.kp T.b_law_size .nil pass0 (pa_cons (pv 3) pa_nil)))
      (pss_one (ps_expr (pe_bm PySem.F.plainAttrs_list PySem.F.slot_list_append PySem.F.type_list_append mt_append (pv 2) (pa_cons (pe_ix ix_list (pe_lst (pa_cons pe_int (pa_cons (pe_op op_sub (pv 4) pe_int) (pa_cons (pe_call G_law_draw hr (by rfl) T.g_law_draw T.F_law_draw.kp T.b_law_draw .nil pass0 (pa_cons (pv 0) (pa_cons (pv 4) pa_nil))) (pa_cons (pe_call G_law_draw hr (by rfl) T.g_law_draw T.F_law_draw.kp T.b_law_draw .nil pass0 (pa_cons (pv 0) (pa_cons (pv 4) pa_nil))) pa_nil))))) (pe_call G_law_draw hr (by rfl) T.g_law_draw T.F_law_draw.kp T.b_law_draw .nil pass0 (pa_cons (pv 0) (pa_cons pe_int pa_nil))) (fun _ _ => rfl)) pa_nil))))))
      (pss_one (ps_ret (pv 2))))), ?_⟩
  obtain ⟨us, hv, hl, hat⟩ := hN
  refine ⟨Nat.zero_le _, fun r hr' => ?_⟩
  have nr := hS.new1 hr'
  have A1 : Rdv a 0 H (upd H r (.lst [])) := Rdv.of (same_new hr')
  have e1 : hid a a (upd H r (.lst [])) r = some (.lst []) := by rw [hid_oth nr nr, upd_same]
  generalize upd H r (.lst []) = H1 at *
  refine ⟨_, rfl, p, rfl, ⟨us, sql (hid_get (A1.same _ _ hv)).1⟩, for_list (xs := us) (fun i σ H' => ∃ ps y3 y4, σ = [some (.ref a), some (.ref p), some (.ref r), y3, y4] ∧ hid a a H' r = some (.lst ((nI ps).map V.int)) ∧ Pts (Ls.take i) ps ∧ Rdv a (3 * i) H H')
    ⟨[], none, none, rfl, e1, .nil, A1.mono (by omega)⟩ (fun i σ H' _ h => by obtain ⟨_, _, _, _, _, _, A⟩ := h; exact sql (hid_get (A.same _ _ hv)).1) (fun i x σ H2 hx h => ?_) (fun σ H2 h => ?_)⟩
  · obtain ⟨ps, y3, y4, rfl, hrr, hpts, A2⟩ := h
    have S2 := A2.src _ hS
    have hi : i < Ls.length := by
      rw [← hl]
      exact (List.getElem?_eq_some_iff.mp hx).1
    have hi' := List.getElem?_eq_getElem hi
    have tk : Ls.take (i + 1) = Ls.take i ++ [Ls[i]] := by rw [List.take_add_one, hi']; rfl
    have lay := lay_low ((hat i x _ hx hi').same A2.same)
    have gL := good _ (List.getElem_mem hi)
    generalize Ls[i] = L at *
    have c1 := LayAt.con_pos gL.1
    have cn := Lay.n_cnt gL.1
    refine ⟨_, rfl, x, L, rfl, lay, ?_⟩
    refine ⟨_, rfl, .inl ⟨rfl, _, sql (hid_get hrr).1⟩, ?_⟩
    refine ⟨_, rfl, _, _, rfl, rfl, _, rfl, _, rfl, a, _, L.cnt, rfl, S2, by omega, lim (by omega) (by omega), fun H3 r3 A3 l3 u3 => ?_⟩
    have S3 := A3.src _ S2
    refine ⟨_, rfl, _, rfl, a, _, L.cnt, rfl, S3, by omega, lim (by omega) (by omega), fun H4 r4 A4 l4 u4 => ⟨size_le (by show 4 ≤ 100000; decide), fun o ho => ?_⟩⟩
    have S4 := A4.src _ S3
    have no := S4.new1 ho
    have B4 : Rdv a 2 H2 (upd H4 o (.lst [.int 0, .int (L.cnt - 1), .int r3, .int r4])) := (((A3.trans A4 (Int.le_refl _)).trans (Rdv.of (same_new ho)) (Int.le_refl _))).mono (by omega)
    have e4 : hid a a (upd H4 o (.lst [.int 0, .int (L.cnt - 1), .int r3, .int r4])) o = some (.lst (([0, L.cnt - 1, r3, r4] : List Int).map V.int)) := by
      rw [hid_oth no no, upd_same]
      rfl
    generalize upd H4 o (.lst [.int 0, .int (L.cnt - 1), .int r3, .int r4]) = H5 at *
    have S5 := B4.src _ S2
    refine ⟨_, rfl, a, _, 4, rfl, S5, by omega, lim (by decide) (by decide), fun H6 r6 A6 l6 u6 => ?_⟩
    obtain ⟨x6, hx6, _, hat6⟩ := at_int (ns := [0, L.cnt - 1, r3, r4]) l6 u6
    have xb : 0 ≤ x6 ∧ x6 < L.cnt := by
      simp only [List.mem_cons, List.not_mem_nil, or_false] at hx6
      omega
    refine ⟨o, _, r6, .int x6, rfl, rfl, sql (hid_get (A6.same _ _ e4)).1, hat6, ?_⟩
    obtain ⟨m, rfl⟩ : ∃ m : Nat, x6 = (m : Int) := ⟨x6.toNat, by omega⟩
    have B6 : Rdv a 3 H2 H6 := (B4.trans A6 (Int.le_refl _)).mono (by omega)
    have hl2 := hpts.len
    have r6e := B6.same _ _ hrr
    refine ⟨r, _, _, rfl, rfl, (hid_get r6e).1, size_lt (by unfold nI; rw [List.length_map, List.length_map, hl2, List.length_take]; omega), ps ++ [m], _, _, rfl, ?_, ?_, ((A2.trans B6 (Int.le_refl _)).mut hS hr').mono (by omega)⟩
    · rw [hid_oth nr nr, upd_same]
      unfold nI
      rw [List.map_append, List.map_append]
      rfl
    · rw [tk]
      exact hpts.snoc (by omega)
  · obtain ⟨ps, y3, y4, rfl, hrr, hpts, A2⟩ := h
    rw [hl, List.take_length] at hpts
    exact ⟨_, rfl, q H2 r ps (A2.mono (by omega)) hr' hrr hpts⟩

end
end Rn
namespace Rn
open PySem PySem.Spec PyProof.Rows L2
section
variable {P : Program} {w : World} {K : PySem.W.Frag} {mg : Str → Option Value} {base : Heap}
def sp_law_split (K : PySem.W.Frag) : Sp := fun vs H Q _ => ∃ (p : Addr) (Ls : List Lay) (N : Nat), vs = [.ref p, .int (N : Int)] ∧ NestAt H p Ls ∧ (∀ L ∈ Ls, L.ok = true ∧ L.cnt < 2 ^ 100) ∧ Ls.length ≤ 8 ∧ N < attN Ls ∧
  ∀ H' r ps, Same H H' → H' r = some (.lst ((nI ps).map V.int)) → Pts Ls ps → numL Ls ps = N → Q (.ref r) H'
theorem ok_law_split (T : Txt K mg) : FnOk P w K mg base CX0 2 T.f_law_split T.d_law_split ["layers", "number"] (sp_law_split K) := by
  have G_law_size := ok_law_size (P := P) (w := w) (base := base) T
  refine T.F_law_split.ok sc_law_split (fun vs H Q E h => ?_) (fun cdv A outer s H vs Q E hr h => ?_)
  · obtain ⟨p, Ls, N, rfl, _⟩ := h
    rfl
  obtain ⟨p, Ls, N, rfl, hN, good, hl8, hlt, q⟩ := h
  refine ⟨_, (pss_cons (ps_set (i := 2) sc_law_split.nd rfl (Or.inl rfl) (pe_lst pa_nil))
      (pss_cons (ps_for PassesOwn.never rfl (pi_list (pv 0)) (pg_name (i := 3) sc_law_split.nd rfl (Or.inl rfl))
      (pss_cons (ps_asg (pe_callB call_divmodW (by rfl) T.m_divmod (by decide +kernel) (pa_cons (pv 1) (pa_cons (pe_call G_law_size hr (by rfl) T.g_law_size T.F_law_size.kp T.b_law_size .nil pass0 (pa_cons (pv 3) pa_nil)) pa_nil))) (pg_tup rfl (pgs_cons (pg_name (i := 1) sc_law_split.nd rfl (Or.inl rfl)) (pgs_cons (pg_name (i := 4) sc_law_split.nd rfl (Or.inl rfl)) pgs_nil))))
      (pss_one (ps_expr (pe_bm PySem.F.plainAttrs_list PySem.F.slot_list_append PySem.F.type_list_append mt_append (pv 2) (pa_cons (pv 4) pa_nil))))))
      (pss_one (ps_ret (pv 2))))), ?_⟩
  obtain ⟨us, hv, hl, hat⟩ := hN
  refine ⟨Nat.zero_le _, fun r hr' => ?_⟩
  have sr := same_new (o := .lst []) hr'
  refine ⟨_, rfl, p, rfl, ⟨us, sql (sr _ _ hv)⟩, for_list (xs := us) (fun i σ H' => ∃ ps m y3 y4, σ = [some (.ref p), some (.int ((m : Nat) : Int)), some (.ref r), y3, y4] ∧ Same H H' ∧ H' r = some (.lst ((nI ps).map V.int)) ∧ Pts (Ls.take i) ps ∧ numL (Ls.take i) ps + attN (Ls.take i) * m = N)
    ⟨[], N, none, none, rfl, sr, upd_same, .nil, by show 0 + 1 * N = N; omega⟩ (fun i σ H' _ h => by obtain ⟨_, _, _, _, _, sm, _⟩ := h; exact sql (sm _ _ hv)) (fun i x σ H2 hx h => ?_) (fun σ H2 h => ?_)⟩
  · obtain ⟨ps, m, y3, y4, rfl, sm, hrr, hpts, hnum⟩ := h
    have hi : i < Ls.length := by
      rw [← hl]
      exact (List.getElem?_eq_some_iff.mp hx).1
    have hi' := List.getElem?_eq_getElem hi
    have tk : Ls.take (i + 1) = Ls.take i ++ [Ls[i]] := by rw [List.take_add_one, hi']; rfl
    have lay := (hat i x _ hx hi').same sm
    have gL := good _ (List.getElem_mem hi)
    have hl2 := hpts.len
    generalize Ls[i] = L at *
    have c1 := LayAt.con_pos gL.1
    have cn := Lay.n_cnt gL.1
    have np := Lay.n_pos gL.1
    have c2 := gL.2
    have em : (m : Int) % L.cnt = ((m % L.n : Nat) : Int) := by rw [← cn, cat_emod]
    have ed : (m : Int) / L.cnt = ((m / L.n : Nat) : Int) := by rw [← cn, cat_ediv]
    have ml := Nat.mod_lt m (show L.n > 0 by omega)
    have dm := Nat.div_add_mod m L.n
    refine ⟨_, rfl, _, rfl, x, L, rfl, lay, _, _, rfl, noPy (b := 100) (by omega) (by omega) (by decide) (by decide), fun t ht => ?_⟩
    rw [em, ed]
    have st := same_new (o := .tup [.int ((m / L.n : Nat) : Int), .int ((m % L.n : Nat) : Int)]) ht
    refine ⟨t, _, rfl, sqt upd_same, rfl, _, _, rfl, _, _, rfl, rfl, ?_⟩
    generalize upd H2 t (.tup [.int ((m / L.n : Nat) : Int), .int ((m % L.n : Nat) : Int)]) = H3 at *
    have r3 := st _ _ hrr
    refine ⟨_, rfl, .inl ⟨rfl, _, sql r3⟩, _, rfl, r, _, _, rfl, rfl, r3, size_lt (by unfold nI; rw [List.length_map, List.length_map, hl2, List.length_take]; omega), ps ++ [m % L.n], m / L.n, _, _, rfl, same_keep (sm.trans st) hr', ?_, ?_, ?_⟩
    · rw [upd_same]
      unfold nI
      rw [List.map_append, List.map_append]
      rfl
    · rw [tk]
      exact hpts.snoc ml
    · rw [tk, numL_snoc hpts, attN_app]
      show numL (Ls.take i) ps + m % L.n * attN (Ls.take i) + attN (Ls.take i) * (L.n * 1) * (m / L.n) = N
      rw [Nat.mul_one, Nat.mul_assoc, Nat.mul_comm (m % L.n), Nat.add_assoc, ← Nat.mul_add, Nat.add_comm (m % L.n), dm]
      exact hnum
  · obtain ⟨ps, m, y3, y4, rfl, sm, hrr, hpts, hnum⟩ := h
    rw [hl, List.take_length] at hpts hnum
    have m0 : m = 0 := by
      rcases Nat.eq_zero_or_pos m with z | z
      · exact z
      · have : attN Ls * 1 ≤ attN Ls * m := Nat.mul_le_mul_left _ z
        omega
    rw [m0, Nat.mul_zero, Nat.add_zero] at hnum
    exact ⟨_, rfl, q H2 r ps sm hrr hpts hnum⟩

end
end Rn
namespace Rn
open PySem PySem.Spec PyProof.Rows L2
section
variable {P : Program} {w : World} {K : PySem.W.Frag} {mg : Str → Option Value} {base : Heap}
def sp_law_first_right (K : PySem.W.Frag) : Sp := fun vs H Q _ => ∃ (p : Addr) (Ls : List Lay) (t : Int), vs = [.ref p, .int t, .int (durN Ls)] ∧ NestAt H p Ls ∧ (∀ L ∈ Ls, L.fair) ∧ Ls.length ≤ 8 ∧ 0 ≤ t ∧ ∀ H', Same H H' → Q (.bl true) H'
theorem ok_law_first_right (T : Txt K mg) : FnOk P w K mg base CX0 5 T.f_law_first_right T.d_law_first_right ["layers", "moment", "end"] (sp_law_first_right K) := by
  have G_first_attempt_from := ok_first_attempt_from (P := P) (w := w) (base := base) T
  have G_law_time := (ok_law_time (P := P) (w := w) (base := base) T).mono (by decide : 2 ≤ 4)
  have G_law_split := (ok_law_split (P := P) (w := w) (base := base) T).mono (by decide : 2 ≤ 4)
  refine T.F_law_first_right.ok sc_law_first_right (fun vs H Q E h => ?_) (fun cdv A outer s H vs Q E hr h => ?_)
  · obtain ⟨p, Ls, t, rfl, _⟩ := h
    rfl
  obtain ⟨p, Ls, t, rfl, hN, fair, hl8, t0, q⟩ := h
  refine ⟨_, (pss_cons (ps_set (i := 3) sc_law_first_right.nd rfl (Or.inl rfl) (pe_call G_first_attempt_from hr (by rfl) T.g_first_attempt_from T.F_first_attempt_from.kp T.b_first_attempt_from .nil pass0 (pa_cons (pv 0) (pa_cons (pv 1) pa_nil))))
      (pss_cons (ps_if (pt_cmpR op_gt (pv 1) (pv 2) (nomark _))
      (pss_one (ps_ret (pe_cmpR op_isN (pv 3) pe_non (nomark _))))
      pss_nil)
      (pss_cons (ps_if (PW.pt (pw_or (pt_cmpR op_isN (pv 3) pe_non (nomark _)) (pw_or (pt_cmpR op_lt (pv 3) pe_int (nomark _)) (pw_or1 (pt_cmpR op_lt (pe_call G_law_time hr (by rfl) T.g_law_time T.F_law_time.kp T.b_law_time .nil pass0 (pa_cons (pv 0) (pa_cons (pe_call G_law_split hr (by rfl) T.g_law_split T.F_law_split.kp T.b_law_split .nil pass0 (pa_cons (pv 0) (pa_cons (pv 3) pa_nil))) pa_nil))) (pv 1) (nomark _))))))
      (pss_one (ps_ret pe_bl))
      pss_nil)
      (pss_one (ps_ret (pe_or (pe_cmpR op_eq (pv 3) pe_int (nomark _)) (pe_one (pe_cmpR op_lt (pe_call G_law_time hr (by rfl) T.g_law_time T.F_law_time.kp T.b_law_time .nil pass0 (pa_cons (pv 0) (pa_cons (pe_call G_law_split hr (by rfl) T.g_law_split T.F_law_split.kp T.b_law_split .nil pass0 (pa_cons (pv 0) (pa_cons (pe_op op_sub (pv 3) pe_int) pa_nil))) pa_nil))) (pv 1) (nomark _))))))))), ?_⟩
  have good : ∀ L ∈ Ls, L.ok = true ∧ L.cnt < 2 ^ 100 := fun L hL => ⟨(fair L hL).1, (fair L hL).2.1⟩
  refine ⟨_, rfl, _, rfl, p, Ls, t, rfl, hN, fair, hl8, t0, fun hlt H1 s1 => ?_, fun hle H1 r s1 hF => ?_⟩
  · refine ⟨_, rfl, _, rfl, _, _, rfl, rfl, _, rfl, ite2 (fun _ => ?_) (fun e => absurd hlt (of_decide_eq_false (Bool.eq_false_iff.mpr e)))⟩
    refine ⟨_, rfl, rfl, ?_⟩
    rw [decide_eq_true rfl]
    exact q _ s1
  · refine ⟨_, rfl, _, rfl, _, _, rfl, rfl, _, rfl, ite2 (fun e => absurd (of_decide_eq_true e) (show ¬ durN Ls < t by omega)) (fun _ => ?_)⟩
    refine ⟨_, rfl, rfl, _, rfl, ite2 (fun e => absurd (of_decide_eq_true e) (fun z => nomatch z)) (fun _ => ?_)⟩
    refine ⟨_, rfl, _, _, rfl, rfl, _, rfl, ite2 (fun e => absurd (of_decide_eq_true e) (show ¬ ((r : Nat) : Int) < 0 by omega)) (fun _ => ?_)⟩
    obtain ⟨f1, f2, f3⟩ := hF
    refine ⟨_, rfl, _, rfl, _, rfl, p, Ls, r, rfl, hN.same s1, good, hl8, f1, fun H2 o ps s2 e2 hP en => ?_⟩
    refine ⟨p, o, Ls, ps, rfl, (hN.same s1).same s2, e2, hP, fair, hl8, fun H3 s3 => ?_⟩
    rw [en]
    have t3 := (s1.trans s2).trans s3
    refine ⟨_, rfl, _, _, rfl, rfl, _, rfl, ite2 (fun e => absurd (of_decide_eq_true e) (show ¬ timeN Ls r < t by omega)) (fun _ => ?_)⟩
    refine ⟨_, rfl, rfl, _, rfl, ite2 (fun _ => q _ t3) (fun e => ?_)⟩
    have r0 : 0 < r := by
      rcases Nat.eq_zero_or_pos r with z | z
      · exact absurd (by rw [z]; exact decide_eq_true rfl) e
      · exact z
    refine ⟨_, rfl, _, rfl, _, rfl, _, _, rfl, rfl, p, Ls, r - 1, by rw [show ((r - 1 : Nat) : Int) = (r : Int) - 1 by omega]; rfl, hN.same t3, good, hl8, by omega, fun H4 o4 ps4 s4 e4 hP4 en4 => ?_⟩
    refine ⟨p, o4, Ls, ps4, rfl, (hN.same t3).same s4, e4, hP4, fair, hl8, fun H5 s5 => ?_⟩
    rw [en4]
    refine ⟨_, rfl, _, _, rfl, rfl, ?_⟩
    show Q (V.bl (decide (timeN Ls (r - 1) < t))) H5
    rw [decide_eq_true (f3 r0)]
    exact q _ ((t3.trans s4).trans s5)

end
end Rn
namespace Rn
open PySem PySem.Spec PyProof.Rows L2
section
variable {P : Program} {w : World} {K : PySem.W.Frag} {mg : Str → Option Value} {base : Heap}
def sp_law_right (K : PySem.W.Frag) : Sp := fun vs H Q _ => ∃ (a : Addr) (n : Int), vs = [.ref a] ∧ Rng H a n ∧ n ≤ 100000 ∧ ∀ H', Rdv a 1400 H H' → Q (.bl true) H'
theorem ok_law_right (T : Txt K mg) : FnOk P w K mg base CX0 6 T.f_law_right T.d_law_right ["pool"] (sp_law_right K) := by
  have G_law_draw := (ok_law_draw (P := P) (w := w) (base := base) T).mono (by decide : 1 ≤ 5)
  have G_law_size := (ok_law_size (P := P) (w := w) (base := base) T).mono (by decide : 1 ≤ 5)
  have G_law_large := (ok_law_large (P := P) (w := w) (base := base) T).mono (by decide : 4 ≤ 5)
  have G_law_parts := (ok_law_parts (P := P) (w := w) (base := base) T).mono (by decide : 2 ≤ 5)
  have G_law_number := (ok_law_number (P := P) (w := w) (base := base) T).mono (by decide : 2 ≤ 5)
  have G_law_time := (ok_law_time (P := P) (w := w) (base := base) T).mono (by decide : 2 ≤ 5)
  have G_law_first_right := ok_law_first_right (P := P) (w := w) (base := base) T
  have G_first_attempt_from := (ok_first_attempt_from (P := P) (w := w) (base := base) T).mono (by decide : 4 ≤ 5)
  refine T.F_law_right.ok sc_law_right (fun vs H Q E h => ?_) (fun cdv A outer s H vs Q E hr h => ?_)
  · obtain ⟨a, n, rfl, _⟩ := h
    rfl
  obtain ⟨a, n, rfl, hS, hn, q⟩ := h
  refine ⟨_, (pss_cons (ps_set (i := 1) sc_law_right.nd rfl (Or.inl rfl) (pe_call G_law_large hr (by rfl) T.g_law_large T.F_law_large.kp T.b_law_large .nil pass0 (pa_cons (pv 0) pa_nil)))
      (pss_cons (ps_set (i := 2) sc_law_right.nd rfl (Or.inl rfl) (pe_call G_law_time hr (by rfl) T.g_law_time T.F_law_time.kp T.b_law_time .nil pass0 (pa_cons (pv 1) (pa_cons (pe_lc (own := [("tier", 8)]) (g := gName 8) (tt := tYes) rfl sc_law_right.nd (pi_list (pv 1)) (blkOk_by (N := ["pool", "layers", "end", "far", "moment", "turn", "parts", "other", "tier"]) (sc := defScope s_law_right) (by decide +kernel)) (fun _ _ _ _ _ => (pg_name (i := 8) sc_law_right.nd rfl (Or.inl rfl))) (fun _ _ _ _ _ => pts_nil) (fun _ _ _ _ _ => (pe_op op_sub (pe_call G_law_size hr (by rfl) T.g_law_size T.F_law_size.kp T.b_law_size .nil pass0 (pa_cons (pv 8) pa_nil)) pe_int))) pa_nil))))
      (pss_cons (ps_set (i := 3) sc_law_right.nd rfl (Or.inl rfl) (pe_op op_add (pv 2) (pe_call G_law_draw hr (by rfl) T.g_law_draw T.F_law_draw.kp T.b_law_draw .nil pass0 (pa_cons (pv 0) (pa_cons (pe_op op_mulW (pe_op op_mulW (pe_op op_mulW (pe_op op_pow pe_int pe_int) (pe_op op_pow pe_int pe_int)) (pe_op op_pow pe_int pe_int)) (pe_op op_pow pe_int pe_int)) pa_nil)))))
      (pss_cons (ps_for PassesOwn.never rfl (pi_list (pe_lst (pa_cons pe_int (pa_cons pe_int (pa_cons (pv 2) (pa_cons (pe_op op_add (pv 2) pe_int) (pa_cons (pv 3) (pa_cons (pe_call G_law_draw hr (by rfl) T.g_law_draw T.F_law_draw.kp T.b_law_draw .nil pass0 (pa_cons (pv 0) (pa_cons (pe_op op_add (pv 2) pe_int) pa_nil))) pa_nil)))))))) (pg_name (i := 4) sc_law_right.nd rfl (Or.inl rfl))
      (pss_one (ps_if (pt_not (pt_val (pe_call G_law_first_right hr (by rfl) T.g_law_first_right T.F_law_first_right.kp T.b_law_first_right .nil pass0 (pa_cons (pv 1) (pa_cons (pv 4) (pa_cons (pv 2) pa_nil))))))
      (pss_one (ps_ret pe_bl))
      pss_nil)))
      (pss_cons (ps_for PassesOwn.never rfl (pi_range1 (by rfl) T.m_range (pa_cons pe_int pa_nil)) (pg_name (i := 5) sc_law_right.nd rfl (Or.inl rfl))
      (pss_cons (ps_set (i := 6) sc_law_right.nd rfl (Or.inl rfl) (pe_call G_law_parts hr (by rfl) T.g_law_parts T.F_law_parts.kp T.b_law_parts .nil pass0 (pa_cons (pv 0) (pa_cons (pv 1) pa_nil))))
      (pss_cons (ps_set (i := 4) sc_law_right.nd rfl (Or.inl rfl) (pe_call G_law_time hr (by rfl) T.g_law_time T.F_law_time.kp T.b_law_time .nil pass0 (pa_cons (pv 1) (pa_cons (pv 6) pa_nil))))
      (pss_cons (ps_if (pt_cmpR op_gt (pe_call G_first_attempt_from hr (by rfl) T.g_first_attempt_from T.F_first_attempt_from.kp T.b_first_attempt_from .nil pass0 (pa_cons (pv 1) (pa_cons (pv 4) pa_nil))) (pe_call G_law_number hr (by rfl) T.g_law_number T.F_law_number.kp T.b_law_number .nil pass0 (pa_cons (pv 1) (pa_cons (pv 6) pa_nil))) (nomark _))
      (pss_one (ps_ret pe_bl))
      pss_nil)
      (pss_one (ps_for PassesOwn.never rfl (pi_list (pe_lst (pa_cons (pv 4) (pa_cons (pe_op op_add (pv 4) pe_int) (pa_cons (pe_callB (call_max2 rfl) (by rfl) T.m_max (by decide +kernel) (pa_cons pe_int (pa_cons (pe_op op_sub (pv 4) pe_int) pa_nil))) pa_nil))))) (pg_name (i := 7) sc_law_right.nd rfl (Or.inl rfl))
      (pss_one (ps_if (pt_not (pt_val (pe_call G_law_first_right hr (by rfl) T.g_law_first_right T.F_law_first_right.kp T.b_law_first_right .nil pass0 (pa_cons (pv 1) (pa_cons (pv 7) (pa_cons (pv 2) pa_nil))))))
      (pss_one (ps_ret pe_bl))
      pss_nil))))))))
      (pss_one (ps_ret pe_bl))))))), ?_⟩
  refine ⟨_, rfl, a, _, rfl, hS, by omega, fun H1 p us Ls A1 f1 v1 l1 l2 n1 => ?_⟩
  have S1 := A1.src _ hS
  have good : ∀ L ∈ Ls, L.ok = true ∧ L.cnt < 2 ^ 100 := fun L hL => ⟨(n1 L hL).1, nice_cnt (n1 L hL)⟩
  have ok1 : ∀ L ∈ Ls, L.ok = true := fun L hL => (n1 L hL).1
  have fair : ∀ L ∈ Ls, L.fair := fun L hL => (n1 L hL).fair
  have nest0 : NestAt (hid a a H1) p Ls := v1.nest
  obtain ⟨hv, hl, hat⟩ : H1 p = some (.lst us) ∧ us.length = Ls.length ∧ ∀ (i : Nat) v L, us[i]? = some v → Ls[i]? = some L → LayAt H1 v L :=
    ⟨(hid_get v1.1).1, v1.2.1, fun i v L x y => lay_low (v1.2.2.1 i v L x y)⟩
  have low : ∀ {G : Hp}, NestAt (hid a a G) p Ls → NestAt G p Ls := fun h => by
    obtain ⟨vs, h1, h2, h3⟩ := h
    exact ⟨vs, (hid_get h1).1, h2, fun i v L x y => lay_low (h3 i v L x y)⟩
  -- end
  refine ⟨_, rfl, _, rfl, p, rfl, ⟨us, sql hv⟩, fun D hD => ?_⟩
  refine lc_list (K := K) (xs := us) (fun i H' => Same H1 H' ∧ H' D = some (.lst ((nI ((Ls.take i).map fun L => L.n - 1)).map V.int)))
    ⟨same_new hD, by rw [upd_same]; rfl⟩ (fun i H' _ h => sql (h.1 _ _ hv)) (fun i x H2 hx h => ?_) (fun H2 h => ?_)
  · obtain ⟨sm, hd⟩ := h
    have hi : i < Ls.length := by
      rw [← hl]
      exact (List.getElem?_eq_some_iff.mp hx).1
    have hi' := List.getElem?_eq_getElem hi
    have c0 := ok1 _ (List.getElem_mem hi)
    have c1 := Lay.n_pos c0
    have c2 := Lay.n_cnt c0
    refine ⟨rfl, _, rfl, x, Ls[i], rfl, (hat i x _ hx hi').same sm, _, _, rfl, rfl, _, hd, size_lt (by unfold nI; rw [List.length_map, List.length_map, List.length_map, List.length_take]; omega), same_keep sm hD, ?_⟩
    rw [upd_same, List.take_add_one, hi', Option.toList_some, List.map_append]
    unfold nI
    rw [List.map_append, List.map_append]
    show some (HO.lst (_ ++ [V.int (Ls[i].cnt - 1)])) = some (HO.lst (_ ++ [V.int ((Ls[i].n - 1 : Nat) : Int)]))
    rw [show Ls[i].cnt - 1 = ((Ls[i].n - 1 : Nat) : Int) by omega]
  obtain ⟨sm2, hd2⟩ := h
  rw [hl, List.take_length] at hd2
  have lp := Pts.last ok1
  have lnum : numL Ls (Ls.map fun L => L.n - 1) = attN Ls - 1 := by
    have e : ∀ Ms : List Lay, (∀ L ∈ Ms, L.ok = true) → numL Ms (Ms.map fun L => L.n - 1) + 1 = attN Ms := by
      intro Ms
      induction Ms with
      | nil => intro _; rfl
      | cons M Ms ih =>
        intro h
        have h1 := ih fun L hL => h L (List.mem_cons_of_mem _ hL)
        have h2 := Lay.n_pos (h M List.mem_cons_self)
        show (M.n - 1) + M.n * numL Ms (Ms.map fun L => L.n - 1) + 1 = M.n * attN Ms
        rw [← h1, Nat.mul_add, Nat.mul_one]
        omega
    have := e Ls ok1
    omega
  generalize hlast : (Ls.map fun L => L.n - 1) = lps at *
  refine ⟨p, D, Ls, lps, rfl, ((low nest0).same sm2), hd2, lp, fair, l2, fun H3 s3 => ?_⟩
  rw [lnum]
  have dE : timeN Ls (attN Ls - 1) = durN Ls := rfl
  rw [dE]
  have d0 := dur_nonneg fair
  have dB : (durN Ls).natAbs < 2 ^ 841 := (time_big (m := 8) (i := attN Ls - 1) fair l2 (by have := attN_pos ok1; omega)).2
  have t3 := sm2.trans s3
  have B3 : Rdv a 1000 H H3 := (A1.trans (Rdv.of t3) (Int.le_refl _)).mono (by omega)
  have S3 := B3.src _ hS
  have nest3 := nest0.same (hid_same (a := a) (d := a) t3)
  clear hv hat v1 sm2 hd2 s3 t3 A1 S1 hD nest0 hl f1
  -- far
  have n60 : ((10 : Int) ^ (60 : Int).toNat).natAbs < 2 ^ 200 := by decide
  have n30 : ((10 : Int) ^ (30 : Int).toNat).natAbs < 2 ^ 100 := by decide
  have p60 : 0 < (10 : Int) ^ (60 : Int).toNat := by decide
  have p30 : 0 < (10 : Int) ^ (30 : Int).toNat := by decide
  have w1 := wide_lt n60 n60
  have w2 := wide_lt w1 n60
  have w3 := wide_lt w2 n30
  refine ⟨_, rfl, _, rfl, _, _, rfl, rfl, ⟨by decide, by decide, by decide⟩, _, _, rfl, rfl, ⟨by decide, by decide, by decide⟩, _, _, rfl, rfl, wide_mul n60 n60 (by decide) (by decide) (by decide), _, _, rfl, rfl, ⟨by decide, by decide, by decide⟩, _, _, rfl, rfl, wide_mul w1 n60 (by decide) (by decide) (by decide), _, _, rfl, rfl, ⟨by decide, by decide, by decide⟩, _, _, rfl, rfl, wide_mul w2 n30 (by decide) (by decide) (by decide), ?_⟩
  generalize (10 : Int) ^ (60 : Int).toNat = x60 at *
  generalize (10 : Int) ^ (30 : Int).toNat = x30 at *
  refine ⟨a, _, x60 * x60 * x60 * x30, rfl, S3, by omega, limB (Int.mul_pos (Int.mul_pos (Int.mul_pos p60 p60) p60) p30) w3 (by decide) (by decide), fun H4 r4 A4 l4 u4 => ⟨_, _, rfl, rfl, ?_⟩⟩
  have S4 := A4.src _ S3
  have dB1 : (durN Ls + 1).natAbs < 2 ^ 842 := by
    have h3 : (2 : Nat) ^ 842 = 2 ^ 841 + 2 ^ 841 := by rw [← Nat.two_mul, ← Nat.pow_succ']
    have h4 : (1 : Nat) < 2 ^ 841 := Nat.one_lt_pow (by decide) (by decide)
    rw [h3]
    generalize (2 : Nat) ^ 841 = P at *
    omega
  refine ⟨_, rfl, _, rfl, _, _, rfl, rfl, _, rfl, _, rfl, _, rfl, _, _, rfl, rfl, a, _, _, rfl, S4, by omega, limB (by omega) dB1 (by decide) (by decide), fun H5 r5 A5 l5 u5 => ⟨size_le (by show 6 ≤ 100000; decide), fun mo hmo => ?_⟩⟩
  have S5 := A5.src _ S4
  have smo := same_new (o := .lst [.int 0, .int 1, .int (durN Ls), .int (durN Ls + 1), .int (durN Ls + r4), .int r5]) hmo
  have emo : upd H5 mo (.lst [.int 0, .int 1, .int (durN Ls), .int (durN Ls + 1), .int (durN Ls + r4), .int r5]) mo = some (.lst (([0, 1, durN Ls, durN Ls + 1, durN Ls + r4, r5] : List Int).map V.int)) := upd_same
  have B6 : Rdv a 1002 H (upd H5 mo (.lst [.int 0, .int 1, .int (durN Ls), .int (durN Ls + 1), .int (durN Ls + r4), .int r5])) := (((B3.trans A4 (Int.le_refl _)).trans A5 (Int.le_refl _)).trans (Rdv.of smo) (Int.le_refl _)).mono (by omega)
  have nest6 := ((nest3.same A4.same).same A5.same).same (hid_same (a := a) (d := a) smo)
  generalize upd H5 mo (.lst [.int 0, .int 1, .int (durN Ls), .int (durN Ls + 1), .int (durN Ls + r4), .int r5]) = H6 at *
  have mo0 : ∀ m ∈ ([0, 1, durN Ls, durN Ls + 1, durN Ls + r4, r5] : List Int), 0 ≤ m := fun m hm => by
    simp only [List.mem_cons, List.not_mem_nil, or_false] at hm
    omega
  generalize ([0, 1, durN Ls, durN Ls + 1, durN Ls + r4, r5] : List Int) = ms at *
  refine ⟨mo, rfl, ⟨_, sql emo⟩, for_list (xs := ms.map V.int) (fun j σ H' => (∃ y4, σ = [some (.ref a), some (.ref p), some (.int (durN Ls)), some (.int (durN Ls + r4)), y4, none, none, none, none]) ∧ Same H6 H')
    ⟨⟨_, rfl⟩, Same.refl _⟩ (fun j σ H' _ h => sql (h.2 _ _ emo)) (fun j x σ H8 hx h => ?_) (fun σ H8 h => ?_)⟩
  · obtain ⟨⟨y4, rfl⟩, s8⟩ := h
    rw [List.getElem?_map] at hx
    obtain ⟨m, hm, rfl⟩ := Option.map_eq_some_iff.mp hx
    exact ⟨_, rfl, _, rfl, _, rfl, p, Ls, m, rfl, (low nest6).same s8, fair, l2, mo0 m (List.mem_of_getElem? hm), fun H9 s9 => ⟨_, rfl, iteF ⟨⟨_, rfl⟩, s8.trans s9⟩⟩⟩
  · obtain ⟨⟨y4, rfl⟩, s8⟩ := h
    have B8 : Rdv a 1002 H H8 := (B6.trans (Rdv.of s8) (Int.le_refl _)).mono (by omega)
    have nest8 := nest6.same (hid_same (a := a) (d := a) s8)
    clear emo B6 nest6 smo hmo S5 A5 S4 A4 nest3 S3 B3
    refine ⟨_, rfl, by decide, by decide, ?_⟩
    refine for_range (lo := 0) (n := 2) (fun i σ H' => (∃ y4 y5 y6 y7 y8, σ = [some (.ref a), some (.ref p), some (.int (durN Ls)), some (.int (durN Ls + r4)), y4, y5, y6, y7, y8]) ∧ Rdv a (1002 + 30 * i) H H' ∧ Same (hid a a H8) (hid a a H'))
      ⟨⟨_, _, _, _, _, rfl⟩, B8.mono (by omega), Same.refl _⟩ (fun i σ H9 hi h => ?_) (fun σ H9 h => q H9 (h.2.1.mono (by omega)))
    obtain ⟨⟨y4, y5, y6, y7, y8, rfl⟩, A9, sm9⟩ := h
    have S9 := A9.src _ hS
    refine ⟨_, rfl, _, rfl, a, p, _, Ls, rfl, S9, by omega, nest8.same sm9, good, l2, fun H10 r ps A10 f10 e10 hP => ?_⟩
    have sm10 := sm9.trans A10.same
    have n10 : NestAt H10 p Ls := low (nest8.same sm10)
    have r10 := (hid_get e10).1
    have A10' : Rdv a (1002 + 30 * (i + 1 : Nat)) H H10 := (A9.trans A10 (Int.le_refl _)).mono (by omega)
    refine ⟨_, rfl, _, rfl, p, r, Ls, ps, rfl, n10, r10, hP, fair, l2, fun H11 s11 => ?_⟩
    have nl := numL_lt hP
    have m0 := (time_le fair _ nl).1
    have mle := time_mono fair (i := numL Ls ps) (j := attN Ls - 1) (by omega) (by omega)
    rw [dE] at mle
    refine ⟨_, rfl, _, rfl, p, Ls, _, rfl, n10.same s11, fair, l2, m0, fun hlt => absurd hlt (by omega), fun _ H12 f s12 hF => ?_⟩
    have fle : f ≤ numL Ls ps := by
      apply Nat.le_of_not_lt
      intro z
      have h1 := hF.2.2 (by omega)
      have h2 := time_mono fair (i := numL Ls ps) (j := f - 1) (by omega) (by have := hF.1; omega)
      omega
    have t12 := s11.trans s12
    refine ⟨_, rfl, _, rfl, p, r, Ls, ps, rfl, n10.same t12, t12 _ _ r10, hP, good, l2, fun H13 s13 => ⟨_, _, rfl, rfl, _, rfl, ite2 (fun e => absurd (of_decide_eq_true e) (by omega)) (fun _ => ?_)⟩⟩
    have t13 := t12.trans s13
    generalize timeN Ls (numL Ls ps) = mt at *
    refine ⟨_, rfl, _, rfl, _, _, rfl, rfl, _, rfl, _, _, rfl, rfl, _, _, rfl, ?_⟩
    have oo0 : 0 ≤ (if mt - 1 > 0 then mt - 1 else 0) := by split <;> omega
    generalize (if mt - 1 > 0 then mt - 1 else 0) = oo at *
    refine ⟨size_le (by show 3 ≤ 100000; decide), fun o ho => ?_⟩
    have so := same_new (o := .lst [.int mt, .int (mt + 1), .int oo]) ho
    have eo : upd H13 o (.lst [.int mt, .int (mt + 1), .int oo]) o = some (.lst (([mt, mt + 1, oo] : List Int).map V.int)) := upd_same
    have t14 := t13.trans so
    generalize upd H13 o (.lst [.int mt, .int (mt + 1), .int oo]) = H14 at *
    have mo3 : ∀ m ∈ ([mt, mt + 1, oo] : List Int), 0 ≤ m := fun m hm => by
      simp only [List.mem_cons, List.not_mem_nil, or_false] at hm
      omega
    generalize ([mt, mt + 1, oo] : List Int) = os at *
    refine ⟨o, rfl, ⟨_, sql eo⟩, for_list (xs := os.map V.int) (fun j σ H' => (∃ y4 y5 y6 y7 y8, σ = [some (.ref a), some (.ref p), some (.int (durN Ls)), some (.int (durN Ls + r4)), y4, y5, y6, y7, y8]) ∧ Same H14 H')
      ⟨⟨_, _, _, _, _, rfl⟩, Same.refl _⟩ (fun j σ H' _ h => sql (h.2 _ _ eo)) (fun j x σ H15 hx h => ?_) (fun σ H15 h => ?_)⟩
    · obtain ⟨⟨y4, y5, y6, y7, y8, rfl⟩, s15⟩ := h
      rw [List.getElem?_map] at hx
      obtain ⟨m, hm, rfl⟩ := Option.map_eq_some_iff.mp hx
      exact ⟨_, rfl, _, rfl, _, rfl, p, Ls, m, rfl, (n10.same t14).same s15, fair, l2, mo3 m (List.mem_of_getElem? hm), fun H16 s16 => ⟨_, rfl, iteF ⟨⟨_, _, _, _, _, rfl⟩, s15.trans s16⟩⟩⟩
    · obtain ⟨⟨y4, y5, y6, y7, y8, rfl⟩, s15⟩ := h
      exact ⟨⟨_, _, _, _, _, rfl⟩, (A10'.trans (Rdv.of (t14.trans s15)) (Int.le_refl _)).mono (by omega), sm10.trans (hid_same (t14.trans s15))⟩

end
end Rn
namespace Rn
open PySem PySem.Spec PyProof.Rows L2
section
variable {P : Program} {w : World} {K : PySem.W.Frag} {mg : Str → Option Value} {base : Heap}
def sp_law (K : PySem.W.Frag) : Sp := fun vs H Q _ => ∃ (a : Addr) (ns : List Int), vs = [.ref a] ∧ SqL K H a (ns.map V.int) ∧ ns.length ≤ 63 ∧ ∀ H', Q (.bl true) H'
abbrev lvl_law : Nat := 7
theorem ok_law (T : Txt K mg) : FnOk P w K mg base CX0 lvl_law T.f_law T.d_law ["script"] (sp_law K) := by
  have G_law_pool := (ok_law_pool (P := P) (w := w) (base := base) T).mono (by decide : 1 ≤ 6)
  have G_law_right := (ok_law_right (P := P) (w := w) (base := base) T)
  have G_first_attempt_from := (ok_first_attempt_from (P := P) (w := w) (base := base) T).mono (by decide : 4 ≤ 6)
  refine T.F_law.ok sc_law (fun vs H Q E h => ?_) (fun cdv A outer s H vs Q E hr h => ?_)
  · obtain ⟨a, ns, rfl, _⟩ := h
    rfl
  obtain ⟨sa, ns, rfl, hS, hl, q⟩ := h
  refine ⟨_, (pss_cons (ps_for PassesOwn.never rfl (pi_range1 (by rfl) T.m_range (pa_cons (pe_callB (call_max2 rfl) (by rfl) T.m_max (by decide +kernel) (pa_cons pe_int (pa_cons (pe_callB (call_min2 rfl) (by rfl) T.m_min (by decide +kernel) (pa_cons pe_int (pa_cons (pe_callB call_len_seq (by rfl) T.m_len PySem.boot_len (pa_cons (pv 0) pa_nil)) pa_nil))) pa_nil))) pa_nil)) (pg_name (i := 1) sc_law.nd rfl (Or.inl rfl))
      (pss_cons (ps_set (i := 2) sc_law.nd rfl (Or.inl rfl) (pe_call G_law_pool hr (by rfl) T.g_law_pool T.F_law_pool.kp T.b_law_pool .nil pass0 (pa_cons (pv 0) (pa_cons (pv 1) pa_nil))))
      (pss_one (ps_for PassesOwn.never rfl (pi_range1 (by rfl) T.m_range (pa_cons pe_int pa_nil)) (pg_name (i := 3) sc_law.nd rfl (Or.inl rfl))
      (pss_one (ps_if (pt_not (pt_val (pe_call G_law_right hr (by rfl) T.g_law_right T.F_law_right.kp T.b_law_right .nil pass0 (pa_cons (pv 2) pa_nil))))
      (pss_one (ps_ret pe_bl))
      pss_nil))))))
      (pss_one (ps_ret (pe_and (pe_cmpR op_isN (pe_call G_first_attempt_from hr (by rfl) T.g_first_attempt_from T.F_first_attempt_from.kp T.b_first_attempt_from .nil pass0 (pa_cons (pe_lst pa_nil) (pa_cons pe_int pa_nil))) pe_non (nomark _)) (pe_one (pe_cmpR op_eq (pe_call G_first_attempt_from hr (by rfl) T.g_first_attempt_from T.F_first_attempt_from.kp T.b_first_attempt_from .nil pass0 (pa_cons (pe_lst pa_nil) (pa_cons pe_int pa_nil))) pe_int (nomark _))))))), ?_⟩
  have hlen : (ns.map V.int).length ≤ 63 := by rw [List.length_map]; exact hl
  have mn : ∃ mx : Int, (if (if (((ns.map V.int).length : Nat) : Int) < 5 then (((ns.map V.int).length : Nat) : Int) else 5) > 1 then (if (((ns.map V.int).length : Nat) : Int) < 5 then (((ns.map V.int).length : Nat) : Int) else 5) else 1) = mx ∧ 1 ≤ mx ∧ mx ≤ 5 := ⟨_, rfl, by split <;> split <;> omega, by split <;> split <;> omega⟩
  obtain ⟨mx, emx, mx1, mx2⟩ := mn
  refine ⟨_, rfl, sa, _, rfl, .inl hS, _, _, rfl, _, _, rfl, ?_⟩
  rw [emx]
  refine ⟨_, rfl, by omega, by omega, ?_⟩
  refine for_range (lo := 0) (n := mx.toNat) (fun i σ H' => (∃ y1 y2 y3, σ = [some (.ref sa), y1, y2, y3]) ∧ Same H H')
    ⟨⟨_, _, _, rfl⟩, Same.refl _⟩ (fun i σ H2 hi h => ?_) (fun σ H2 h => ?_)
  · obtain ⟨⟨y1, y2, y3, rfl⟩, sm⟩ := h
    refine ⟨_, rfl, _, rfl, sa, ns, i, by rw [Int.zero_add]; rfl, sm.seq hS, hl, by omega, fun H3 p s3 f3 S3 => ?_⟩
    refine ⟨_, rfl, by decide, by decide, ?_⟩
    refine for_range (lo := 0) (n := 2) (fun j σ H' => (∃ y1 y3, σ = [some (.ref sa), y1, some (.ref p), y3]) ∧ Rdv p (2000 * j) H3 H')
      ⟨⟨_, _, rfl⟩, Rdv.refl⟩ (fun j σ H4 hj h => ?_) (fun σ H4 h => ?_)
    · obtain ⟨⟨y1, y3, rfl⟩, A4⟩ := h
      have S4 := A4.src _ S3
      exact ⟨_, rfl, p, _, rfl, S4, by omega, fun H5 A5 => ⟨_, rfl, iteF ⟨⟨_, _, rfl⟩, (A4.trans A5 (Int.le_refl _)).mono (by omega)⟩⟩⟩
    · obtain ⟨⟨y1, y3, rfl⟩, A4⟩ := h
      refine ⟨⟨_, _, _, rfl⟩, fun b o hb => ?_⟩
      have hb2 := sm _ _ hb
      have hb3 := s3 _ _ hb2
      have ne : b ≠ p := fun z => by rw [← z, hb2] at f3; cases f3
      exact (hid_get (A4.same _ _ (hid_at hb3 ne ne))).1
  · refine ⟨Nat.zero_le _, fun t1 h1 => ?_⟩
    refine ⟨t1, [], 1, rfl, nest_of upd_same .nil, (fun _ z => nomatch z), by show 0 ≤ 8; decide, by decide, fun _ H5 s5 => ?_, fun hle => absurd hle (by decide)⟩
    refine ⟨rfl, true, congrArg V.bl (decide_eq_true rfl), iteT ?_⟩
    refine ⟨Nat.zero_le _, fun t2 h2 => ?_⟩
    refine ⟨t2, [], 0, rfl, nest_of upd_same .nil, (fun _ z => nomatch z), by show 0 ≤ 8; decide, by decide, fun hlt => absurd hlt (by decide), fun _ H6 r s6 hF => ⟨rfl, ?_⟩⟩
    have r0 : r = 0 := by have : r < 1 := hF.1; omega
    subst r0
    rw [show decide (V.int ((0 : Nat) : Int) = V.int 0) = true from decide_eq_true rfl]
    exact q _

end
end Rn
namespace Rn
open PySem PySem.Spec PyProof.Rows L2
theorem all_mk {l : PySem.W.OpenLaw} {w : World} {K : PySem.W.Frag} {h : Heap} {mg : Str → Option Value} {fa f0 f1 f2 f3 f4 f5 f6 f7 f8 f9 f10 f11 f12 f13 f14 f15 f16 f17 f18 f19 f20 f21 f22 : Addr} (X : K.In h) (G : h.Ns mainGlobals mg) (hfa : mg "law" = some (.ref fa))
    {od0 an0 od1 an1 od2 an2 od3 an3 od4 an4 od5 an5 od6 an6 od7 an7 od8 an8 od9 an9 od10 an10 od11 an11 od12 an12 od13 an13 od14 an14 od15 an15 od16 an16 od17 an17 od18 an18 od19 an19 od20 an20 od21 an21 od22 an22 : Option Addr} {sl0 sl1 sl2 sl3 sl4 sl5 sl6 sl7 sl8 sl9 sl10 sl11 sl12 sl13 sl14 sl15 sl16 sl17 sl18 sl19 sl20 sl21 sl22 : Array (Option Value)} {oc0 kV0 dc0 pm0 cd0 ct0 oc1 kV1 dc1 pm1 cd1 ct1 oc2 kV2 dc2 pm2 cd2 ct2 oc3 kV3 dc3 pm3 cd3 ct3 oc4 kV4 dc4 pm4 cd4 ct4 oc5 kV5 dc5 pm5 cd5 ct5 oc6 kV6 dc6 pm6 cd6 ct6 oc7 kV7 dc7 pm7 cd7 ct7 oc8 kV8 dc8 pm8 cd8 ct8 oc9 kV9 dc9 pm9 cd9 ct9 oc10 kV10 dc10 pm10 cd10 ct10 oc11 kV11 dc11 pm11 cd11 ct11 oc12 kV12 dc12 pm12 cd12 ct12 oc13 kV13 dc13 pm13 cd13 ct13 oc14 kV14 dc14 pm14 cd14 ct14 oc15 kV15 dc15 pm15 cd15 ct15 oc16 kV16 dc16 pm16 cd16 ct16 oc17 kV17 dc17 pm17 cd17 ct17 oc18 kV18 dc18 pm18 cd18 ct18 oc19 kV19 dc19 pm19 cd19 ct19 oc20 kV20 dc20 pm20 cd20 ct20 oc21 kV21 dc21 pm21 cd21 ct21 oc22 kV22 dc22 pm22 cd22 ct22 : Value}
    (a0 : PySem.W.nsIn K mainGlobals "first_negative" = some (some (.ref f0))) (l0 : K.lookup f0 = some ⟨oc0, od0, .func (PySem.W.fnOf "first_negative" "first_negative" (defArgs s_first_negative) (defBody s_first_negative) (defScope s_first_negative) .none kV0 dc0 pm0 an0 cd0 ct0), sl0⟩) (c0 : PySem.W.codeIn K cd0 "first_negative" = true) (k0 : PySem.W.keepIn K (.ref f0) = true)
    (a1 : PySem.W.nsIn K mainGlobals "is_valid_layer" = some (some (.ref f1))) (l1 : K.lookup f1 = some ⟨oc1, od1, .func (PySem.W.fnOf "is_valid_layer" "is_valid_layer" (defArgs s_is_valid_layer) (defBody s_is_valid_layer) (defScope s_is_valid_layer) .none kV1 dc1 pm1 an1 cd1 ct1), sl1⟩) (c1 : PySem.W.codeIn K cd1 "is_valid_layer" = true) (k1 : PySem.W.keepIn K (.ref f1) = true)
    (a2 : PySem.W.nsIn K mainGlobals "check_nesting" = some (some (.ref f2))) (l2 : K.lookup f2 = some ⟨oc2, od2, .func (PySem.W.fnOf "check_nesting" "check_nesting" (defArgs s_check_nesting) (defBody s_check_nesting) (defScope s_check_nesting) .none kV2 dc2 pm2 an2 cd2 ct2), sl2⟩) (c2 : PySem.W.codeIn K cd2 "check_nesting" = true) (k2 : PySem.W.keepIn K (.ref f2) = true)
    (a3 : PySem.W.nsIn K mainGlobals "layer_attempts" = some (some (.ref f3))) (l3 : K.lookup f3 = some ⟨oc3, od3, .func (PySem.W.fnOf "layer_attempts" "layer_attempts" (defArgs s_layer_attempts) (defBody s_layer_attempts) (defScope s_layer_attempts) .none kV3 dc3 pm3 an3 cd3 ct3), sl3⟩) (c3 : PySem.W.codeIn K cd3 "layer_attempts" = true) (k3 : PySem.W.keepIn K (.ref f3) = true)
    (a4 : PySem.W.nsIn K mainGlobals "time_in_layer" = some (some (.ref f4))) (l4 : K.lookup f4 = some ⟨oc4, od4, .func (PySem.W.fnOf "time_in_layer" "time_in_layer" (defArgs s_time_in_layer) (defBody s_time_in_layer) (defScope s_time_in_layer) .none kV4 dc4 pm4 an4 cd4 ct4), sl4⟩) (c4 : PySem.W.codeIn K cd4 "time_in_layer" = true) (k4 : PySem.W.keepIn K (.ref f4) = true)
    (a5 : PySem.W.nsIn K mainGlobals "duration" = some (some (.ref f5))) (l5 : K.lookup f5 = some ⟨oc5, od5, .func (PySem.W.fnOf "duration" "duration" (defArgs s_duration) (defBody s_duration) (defScope s_duration) .none kV5 dc5 pm5 an5 cd5 ct5), sl5⟩) (c5 : PySem.W.codeIn K cd5 "duration" = true) (k5 : PySem.W.keepIn K (.ref f5) = true)
    (a6 : PySem.W.nsIn K mainGlobals "durations" = some (some (.ref f6))) (l6 : K.lookup f6 = some ⟨oc6, od6, .func (PySem.W.fnOf "durations" "durations" (defArgs s_durations) (defBody s_durations) (defScope s_durations) .none kV6 dc6 pm6 an6 cd6 ct6), sl6⟩) (c6 : PySem.W.codeIn K cd6 "durations" = true) (k6 : PySem.W.keepIn K (.ref f6) = true)
    (a7 : PySem.W.nsIn K mainGlobals "first_run_until" = some (some (.ref f7))) (l7 : K.lookup f7 = some ⟨oc7, od7, .func (PySem.W.fnOf "first_run_until" "first_run_until" (defArgs s_first_run_until) (defBody s_first_run_until) (defScope s_first_run_until) .none kV7 dc7 pm7 an7 cd7 ct7), sl7⟩) (c7 : PySem.W.codeIn K cd7 "first_run_until" = true) (k7 : PySem.W.keepIn K (.ref f7) = true)
    (a8 : PySem.W.nsIn K mainGlobals "first_attempt_from" = some (some (.ref f8))) (l8 : K.lookup f8 = some ⟨oc8, od8, .func (PySem.W.fnOf "first_attempt_from" "first_attempt_from" (defArgs s_first_attempt_from) (defBody s_first_attempt_from) (defScope s_first_attempt_from) .none kV8 dc8 pm8 an8 cd8 ct8), sl8⟩) (c8 : PySem.W.codeIn K cd8 "first_attempt_from" = true) (k8 : PySem.W.keepIn K (.ref f8) = true)
    (a9 : PySem.W.nsIn K mainGlobals "_law_pool" = some (some (.ref f9))) (l9 : K.lookup f9 = some ⟨oc9, od9, .func (PySem.W.fnOf "_law_pool" "_law_pool" (defArgs s_law_pool) (defBody s_law_pool) (defScope s_law_pool) .none kV9 dc9 pm9 an9 cd9 ct9), sl9⟩) (c9 : PySem.W.codeIn K cd9 "_law_pool" = true) (k9 : PySem.W.keepIn K (.ref f9) = true)
    (a10 : PySem.W.nsIn K mainGlobals "_law_draw" = some (some (.ref f10))) (l10 : K.lookup f10 = some ⟨oc10, od10, .func (PySem.W.fnOf "_law_draw" "_law_draw" (defArgs s_law_draw) (defBody s_law_draw) (defScope s_law_draw) .none kV10 dc10 pm10 an10 cd10 ct10), sl10⟩) (c10 : PySem.W.codeIn K cd10 "_law_draw" = true) (k10 : PySem.W.keepIn K (.ref f10) = true)
    (a11 : PySem.W.nsIn K mainGlobals "_law_size" = some (some (.ref f11))) (l11 : K.lookup f11 = some ⟨oc11, od11, .func (PySem.W.fnOf "_law_size" "_law_size" (defArgs s_law_size) (defBody s_law_size) (defScope s_law_size) .none kV11 dc11 pm11 an11 cd11 ct11), sl11⟩) (c11 : PySem.W.codeIn K cd11 "_law_size" = true) (k11 : PySem.W.keepIn K (.ref f11) = true)
    (a12 : PySem.W.nsIn K mainGlobals "_law_wait" = some (some (.ref f12))) (l12 : K.lookup f12 = some ⟨oc12, od12, .func (PySem.W.fnOf "_law_wait" "_law_wait" (defArgs s_law_wait) (defBody s_law_wait) (defScope s_law_wait) .none kV12 dc12 pm12 an12 cd12 ct12), sl12⟩) (c12 : PySem.W.codeIn K cd12 "_law_wait" = true) (k12 : PySem.W.keepIn K (.ref f12) = true)
    (a13 : PySem.W.nsIn K mainGlobals "_law_tier" = some (some (.ref f13))) (l13 : K.lookup f13 = some ⟨oc13, od13, .func (PySem.W.fnOf "_law_tier" "_law_tier" (defArgs s_law_tier) (defBody s_law_tier) (defScope s_law_tier) .none kV13 dc13 pm13 an13 cd13 ct13), sl13⟩) (c13 : PySem.W.codeIn K cd13 "_law_tier" = true) (k13 : PySem.W.keepIn K (.ref f13) = true)
    (a14 : PySem.W.nsIn K mainGlobals "_law_large" = some (some (.ref f14))) (l14 : K.lookup f14 = some ⟨oc14, od14, .func (PySem.W.fnOf "_law_large" "_law_large" (defArgs s_law_large) (defBody s_law_large) (defScope s_law_large) .none kV14 dc14 pm14 an14 cd14 ct14), sl14⟩) (c14 : PySem.W.codeIn K cd14 "_law_large" = true) (k14 : PySem.W.keepIn K (.ref f14) = true)
    (a15 : PySem.W.nsIn K mainGlobals "_law_sum_in" = some (some (.ref f15))) (l15 : K.lookup f15 = some ⟨oc15, od15, .func (PySem.W.fnOf "_law_sum_in" "_law_sum_in" (defArgs s_law_sum_in) (defBody s_law_sum_in) (defScope s_law_sum_in) .none kV15 dc15 pm15 an15 cd15 ct15), sl15⟩) (c15 : PySem.W.codeIn K cd15 "_law_sum_in" = true) (k15 : PySem.W.keepIn K (.ref f15) = true)
    (a16 : PySem.W.nsIn K mainGlobals "_law_number" = some (some (.ref f16))) (l16 : K.lookup f16 = some ⟨oc16, od16, .func (PySem.W.fnOf "_law_number" "_law_number" (defArgs s_law_number) (defBody s_law_number) (defScope s_law_number) .none kV16 dc16 pm16 an16 cd16 ct16), sl16⟩) (c16 : PySem.W.codeIn K cd16 "_law_number" = true) (k16 : PySem.W.keepIn K (.ref f16) = true)
    (a17 : PySem.W.nsIn K mainGlobals "_law_time" = some (some (.ref f17))) (l17 : K.lookup f17 = some ⟨oc17, od17, .func (PySem.W.fnOf "_law_time" "_law_time" (defArgs s_law_time) (defBody s_law_time) (defScope s_law_time) .none kV17 dc17 pm17 an17 cd17 ct17), sl17⟩) (c17 : PySem.W.codeIn K cd17 "_law_time" = true) (k17 : PySem.W.keepIn K (.ref f17) = true)
    (a18 : PySem.W.nsIn K mainGlobals "_law_parts" = some (some (.ref f18))) (l18 : K.lookup f18 = some ⟨oc18, od18, .func (PySem.W.fnOf "_law_parts" "_law_parts" (defArgs s_law_parts) (defBody s_law_parts) (defScope s_law_parts) .none kV18 dc18 pm18 an18 cd18 ct18), sl18⟩) (c18 : PySem.W.codeIn K cd18 "_law_parts" = true) (k18 : PySem.W.keepIn K (.ref f18) = true)
    (a19 : PySem.W.nsIn K mainGlobals "_law_split" = some (some (.ref f19))) (l19 : K.lookup f19 = some ⟨oc19, od19, .func (PySem.W.fnOf "_law_split" "_law_split" (defArgs s_law_split) (defBody s_law_split) (defScope s_law_split) .none kV19 dc19 pm19 an19 cd19 ct19), sl19⟩) (c19 : PySem.W.codeIn K cd19 "_law_split" = true) (k19 : PySem.W.keepIn K (.ref f19) = true)
    (a20 : PySem.W.nsIn K mainGlobals "_law_first_right" = some (some (.ref f20))) (l20 : K.lookup f20 = some ⟨oc20, od20, .func (PySem.W.fnOf "_law_first_right" "_law_first_right" (defArgs s_law_first_right) (defBody s_law_first_right) (defScope s_law_first_right) .none kV20 dc20 pm20 an20 cd20 ct20), sl20⟩) (c20 : PySem.W.codeIn K cd20 "_law_first_right" = true) (k20 : PySem.W.keepIn K (.ref f20) = true)
    (a21 : PySem.W.nsIn K mainGlobals "_law_right" = some (some (.ref f21))) (l21 : K.lookup f21 = some ⟨oc21, od21, .func (PySem.W.fnOf "_law_right" "_law_right" (defArgs s_law_right) (defBody s_law_right) (defScope s_law_right) .none kV21 dc21 pm21 an21 cd21 ct21), sl21⟩) (c21 : PySem.W.codeIn K cd21 "_law_right" = true) (k21 : PySem.W.keepIn K (.ref f21) = true)
    (a22 : PySem.W.nsIn K mainGlobals "law" = some (some (.ref f22))) (l22 : K.lookup f22 = some ⟨oc22, od22, .func (PySem.W.fnOf "law" "law" (defArgs s_law) (defBody s_law) (defScope s_law) .none kV22 dc22 pm22 an22 cd22 ct22), sl22⟩) (c22 : PySem.W.codeIn K cd22 "law" = true) (k22 : PySem.W.keepIn K (.ref f22) = true)
    (z0 : PySem.W.nsIn K mainGlobals "abs" = some none)
    (z1 : PySem.W.nsIn K mainGlobals "divmod" = some none)
    (z2 : PySem.W.nsIn K mainGlobals "enumerate" = some none)
    (z3 : PySem.W.nsIn K mainGlobals "isinstance" = some none)
    (z4 : PySem.W.nsIn K mainGlobals "len" = some none)
    (z5 : PySem.W.nsIn K mainGlobals "max" = some none)
    (z6 : PySem.W.nsIn K mainGlobals "min" = some none)
    (z7 : PySem.W.nsIn K mainGlobals "range" = some none)
    (z8 : PySem.W.nsIn K mainGlobals "reversed" = some none)
    (z9 : PySem.W.nsIn K mainGlobals "sum" = some none)
    (z10 : PySem.W.nsIn K mainGlobals "tuple" = some none)
    (z11 : PySem.W.nsIn K mainGlobals "zip" = some none)
    : ∃ fd : FuncData, (∀ (s : Shared) (v : Value), BindsTo s fd ⟨[v], []⟩ [("script", v)]) ∧ ∀ base : Heap, K.In base → base.Ns mainGlobals mg → FnOk l.prog w K mg base CX0 lvl_law fa fd ["script"] (sp_law K) := by
  have e := hfa.symm.trans (PySem.W.mg_of X G a22)
  cases e
  have F0 := fun_mk (st := s_first_negative) l0 c0 k0
  have F1 := fun_mk (st := s_is_valid_layer) l1 c1 k1
  have F2 := fun_mk (st := s_check_nesting) l2 c2 k2
  have F3 := fun_mk (st := s_layer_attempts) l3 c3 k3
  have F4 := fun_mk (st := s_time_in_layer) l4 c4 k4
  have F5 := fun_mk (st := s_duration) l5 c5 k5
  have F6 := fun_mk (st := s_durations) l6 c6 k6
  have F7 := fun_mk (st := s_first_run_until) l7 c7 k7
  have F8 := fun_mk (st := s_first_attempt_from) l8 c8 k8
  have F9 := fun_mk (st := s_law_pool) l9 c9 k9
  have F10 := fun_mk (st := s_law_draw) l10 c10 k10
  have F11 := fun_mk (st := s_law_size) l11 c11 k11
  have F12 := fun_mk (st := s_law_wait) l12 c12 k12
  have F13 := fun_mk (st := s_law_tier) l13 c13 k13
  have F14 := fun_mk (st := s_law_large) l14 c14 k14
  have F15 := fun_mk (st := s_law_sum_in) l15 c15 k15
  have F16 := fun_mk (st := s_law_number) l16 c16 k16
  have F17 := fun_mk (st := s_law_time) l17 c17 k17
  have F18 := fun_mk (st := s_law_parts) l18 c18 k18
  have F19 := fun_mk (st := s_law_split) l19 c19 k19
  have F20 := fun_mk (st := s_law_first_right) l20 c20 k20
  have F21 := fun_mk (st := s_law_right) l21 c21 k21
  have F22 := fun_mk (st := s_law) l22 c22 k22
  have b0 := F0.binds (ps := ["waits"]) fun _ _ _ _ _ _ us hl => match us, hl with | [_], _ => rfl
  have b1 := F1.binds (ps := ["layer"]) fun _ _ _ _ _ _ us hl => match us, hl with | [_], _ => rfl
  have b2 := F2.binds (ps := ["nesting"]) fun _ _ _ _ _ _ us hl => match us, hl with | [_], _ => rfl
  have b3 := F3.binds (ps := ["layer"]) fun _ _ _ _ _ _ us hl => match us, hl with | [_], _ => rfl
  have b4 := F4.binds (ps := ["layer", "attempt"]) fun _ _ _ _ _ _ us hl => match us, hl with | [_, _], _ => rfl
  have b5 := F5.binds (ps := ["layer"]) fun _ _ _ _ _ _ us hl => match us, hl with | [_], _ => rfl
  have b6 := F6.binds (ps := ["nesting"]) fun _ _ _ _ _ _ us hl => match us, hl with | [_], _ => rfl
  have b7 := F7.binds (ps := ["layer", "within", "time"]) fun _ _ _ _ _ _ us hl => match us, hl with | [_, _, _], _ => rfl
  have b8 := F8.binds (ps := ["nesting", "time"]) fun _ _ _ _ _ _ us hl => match us, hl with | [_, _], _ => rfl
  have b9 := F9.binds (ps := ["script", "at"]) fun _ _ _ _ _ _ us hl => match us, hl with | [_, _], _ => rfl
  have b10 := F10.binds (ps := ["pool", "many"]) fun _ _ _ _ _ _ us hl => match us, hl with | [_, _], _ => rfl
  have b11 := F11.binds (ps := ["tier"]) fun _ _ _ _ _ _ us hl => match us, hl with | [_], _ => rfl
  have b12 := F12.binds (ps := ["pool"]) fun _ _ _ _ _ _ us hl => match us, hl with | [_], _ => rfl
  have b13 := F13.binds (ps := ["pool", "most"]) fun _ _ _ _ _ _ us hl => match us, hl with | [_, _], _ => rfl
  have b14 := F14.binds (ps := ["pool"]) fun _ _ _ _ _ _ us hl => match us, hl with | [_], _ => rfl
  have b15 := F15.binds (ps := ["tier", "part"]) fun _ _ _ _ _ _ us hl => match us, hl with | [_, _], _ => rfl
  have b16 := F16.binds (ps := ["layers", "parts"]) fun _ _ _ _ _ _ us hl => match us, hl with | [_, _], _ => rfl
  have b17 := F17.binds (ps := ["layers", "parts"]) fun _ _ _ _ _ _ us hl => match us, hl with | [_, _], _ => rfl
  have b18 := F18.binds (ps := ["pool", "layers"]) fun _ _ _ _ _ _ us hl => match us, hl with | [_, _], _ => rfl
  have b19 := F19.binds (ps := ["layers", "number"]) fun _ _ _ _ _ _ us hl => match us, hl with | [_, _], _ => rfl
  have b20 := F20.binds (ps := ["layers", "moment", "end"]) fun _ _ _ _ _ _ us hl => match us, hl with | [_, _, _], _ => rfl
  have b21 := F21.binds (ps := ["pool"]) fun _ _ _ _ _ _ us hl => match us, hl with | [_], _ => rfl
  have b22 := F22.binds (ps := ["script"]) fun _ _ _ _ _ _ us hl => match us, hl with | [_], _ => rfl
  have T : Txt K mg := ⟨f0, _, F0, PySem.W.mg_of X G a0, b0, f1, _, F1, PySem.W.mg_of X G a1, b1, f2, _, F2, PySem.W.mg_of X G a2, b2, f3, _, F3, PySem.W.mg_of X G a3, b3, f4, _, F4, PySem.W.mg_of X G a4, b4, f5, _, F5, PySem.W.mg_of X G a5, b5, f6, _, F6, PySem.W.mg_of X G a6, b6, f7, _, F7, PySem.W.mg_of X G a7, b7, f8, _, F8, PySem.W.mg_of X G a8, b8, f9, _, F9, PySem.W.mg_of X G a9, b9, f10, _, F10, PySem.W.mg_of X G a10, b10, f11, _, F11, PySem.W.mg_of X G a11, b11, f12, _, F12, PySem.W.mg_of X G a12, b12, f13, _, F13, PySem.W.mg_of X G a13, b13, f14, _, F14, PySem.W.mg_of X G a14, b14, f15, _, F15, PySem.W.mg_of X G a15, b15, f16, _, F16, PySem.W.mg_of X G a16, b16, f17, _, F17, PySem.W.mg_of X G a17, b17, f18, _, F18, PySem.W.mg_of X G a18, b18, f19, _, F19, PySem.W.mg_of X G a19, b19, f20, _, F20, PySem.W.mg_of X G a20, b20, f21, _, F21, PySem.W.mg_of X G a21, b21, fa, _, F22, PySem.W.mg_of X G a22, b22, PySem.W.mg_none_of X G z0, PySem.W.mg_none_of X G z1, PySem.W.mg_none_of X G z2, PySem.W.mg_none_of X G z3, PySem.W.mg_none_of X G z4, PySem.W.mg_none_of X G z5, PySem.W.mg_none_of X G z6, PySem.W.mg_none_of X G z7, PySem.W.mg_none_of X G z8, PySem.W.mg_none_of X G z9, PySem.W.mg_none_of X G z10, PySem.W.mg_none_of X G z11⟩
  exact ⟨_, fun s v => .of_eq rfl, fun base _ _ => ok_law ⟨f0, _, F0, PySem.W.mg_of X G a0, b0, f1, _, F1, PySem.W.mg_of X G a1, b1, f2, _, F2, PySem.W.mg_of X G a2, b2, f3, _, F3, PySem.W.mg_of X G a3, b3, f4, _, F4, PySem.W.mg_of X G a4, b4, f5, _, F5, PySem.W.mg_of X G a5, b5, f6, _, F6, PySem.W.mg_of X G a6, b6, f7, _, F7, PySem.W.mg_of X G a7, b7, f8, _, F8, PySem.W.mg_of X G a8, b8, f9, _, F9, PySem.W.mg_of X G a9, b9, f10, _, F10, PySem.W.mg_of X G a10, b10, f11, _, F11, PySem.W.mg_of X G a11, b11, f12, _, F12, PySem.W.mg_of X G a12, b12, f13, _, F13, PySem.W.mg_of X G a13, b13, f14, _, F14, PySem.W.mg_of X G a14, b14, f15, _, F15, PySem.W.mg_of X G a15, b15, f16, _, F16, PySem.W.mg_of X G a16, b16, f17, _, F17, PySem.W.mg_of X G a17, b17, f18, _, F18, PySem.W.mg_of X G a18, b18, f19, _, F19, PySem.W.mg_of X G a19, b19, f20, _, F20, PySem.W.mg_of X G a20, b20, f21, _, F21, PySem.W.mg_of X G a21, b21, fa, _, F22, PySem.W.mg_of X G a22, b22, PySem.W.mg_none_of X G z0, PySem.W.mg_none_of X G z1, PySem.W.mg_none_of X G z2, PySem.W.mg_none_of X G z3, PySem.W.mg_none_of X G z4, PySem.W.mg_none_of X G z5, PySem.W.mg_none_of X G z6, PySem.W.mg_none_of X G z7, PySem.W.mg_none_of X G z8, PySem.W.mg_none_of X G z9, PySem.W.mg_none_of X G z10, PySem.W.mg_none_of X G z11⟩⟩
end Rn
open PySem PySem.W PyProof.Rows
set_option maxRecDepth 100000 in
set_option maxHeartbeats 0 in
theorem PySem.Challenge.cw_retrynest_k21_first_attempts_of_long_nes_holds : PySem.Challenge.rw_retrynest_k21_first_attempts_of_long_nes.Holds := by
  w_on; o_law; k_head; (case hw => w_witness2)
  k_fill
  refine L2.walk_ofK (l := PySem.Challenge.rw_retrynest_k21_first_attempts_of_long_nes) (n := 63) (k := Rn.lvl_law) (x := "script") (CX := L2.CX0) (sp := Rn.sp_law) rfl (by decide) rfl ⟨rfl, by decide, by decide⟩ (fun w h Y => PySem.W.kIn_of Y) ?F (fun _ _ a ns hl _ hS => ⟨a, ns, rfl, hS, hl, fun _ => rfl⟩) (fun _ _ _ _ h => h)
  case F =>
    intro w mg fa h KX G hmg
    refine' Rn.all_mk KX G hmg ?a0 ?l0 ?c0 ?k0 ?a1 ?l1 ?c1 ?k1 ?a2 ?l2 ?c2 ?k2 ?a3 ?l3 ?c3 ?k3 ?a4 ?l4 ?c4 ?k4 ?a5 ?l5 ?c5 ?k5 ?a6 ?l6 ?c6 ?k6 ?a7 ?l7 ?c7 ?k7 ?a8 ?l8 ?c8 ?k8 ?a9 ?l9 ?c9 ?k9 ?a10 ?l10 ?c10 ?k10 ?a11 ?l11 ?c11 ?k11 ?a12 ?l12 ?c12 ?k12 ?a13 ?l13 ?c13 ?k13 ?a14 ?l14 ?c14 ?k14 ?a15 ?l15 ?c15 ?k15 ?a16 ?l16 ?c16 ?k16 ?a17 ?l17 ?c17 ?k17 ?a18 ?l18 ?c18 ?k18 ?a19 ?l19 ?c19 ?k19 ?a20 ?l20 ?c20 ?k20 ?a21 ?l21 ?c21 ?k21 ?a22 ?l22 ?c22 ?k22 ?z0 ?z1 ?z2 ?z3 ?z4 ?z5 ?z6 ?z7 ?z8 ?z9 ?z10 ?z11
    (case a0 => k_is); (case l0 => k_is); (case c0 => k_is); (case k0 => k_is); (case a1 => k_is); (case l1 => k_is); (case c1 => k_is); (case k1 => k_is); (case a2 => k_is)
    (case l2 => k_is); (case c2 => k_is); (case k2 => k_is); (case a3 => k_is); (case l3 => k_is); (case c3 => k_is); (case k3 => k_is); (case a4 => k_is); (case l4 => k_is)
    (case c4 => k_is); (case k4 => k_is); (case a5 => k_is); (case l5 => k_is); (case c5 => k_is); (case k5 => k_is); (case a6 => k_is); (case l6 => k_is); (case c6 => k_is)
    (case k6 => k_is); (case a7 => k_is); (case l7 => k_is); (case c7 => k_is); (case k7 => k_is); (case a8 => k_is); (case l8 => k_is); (case c8 => k_is); (case k8 => k_is)
    (case a9 => k_is); (case l9 => k_is); (case c9 => k_is); (case k9 => k_is); (case a10 => k_is); (case l10 => k_is); (case c10 => k_is); (case k10 => k_is); (case a11 => k_is)
    (case l11 => k_is); (case c11 => k_is); (case k11 => k_is); (case a12 => k_is); (case l12 => k_is); (case c12 => k_is); (case k12 => k_is); (case a13 => k_is)
    (case l13 => k_is); (case c13 => k_is); (case k13 => k_is); (case a14 => k_is); (case l14 => k_is); (case c14 => k_is); (case k14 => k_is); (case a15 => k_is)
    (case l15 => k_is); (case c15 => k_is); (case k15 => k_is); (case a16 => k_is); (case l16 => k_is); (case c16 => k_is); (case k16 => k_is); (case a17 => k_is)
    (case l17 => k_is); (case c17 => k_is); (case k17 => k_is); (case a18 => k_is); (case l18 => k_is); (case c18 => k_is); (case k18 => k_is); (case a19 => k_is)
    (case l19 => k_is); (case c19 => k_is); (case k19 => k_is); (case a20 => k_is); (case l20 => k_is); (case c20 => k_is); (case k20 => k_is); (case a21 => k_is)
    (case l21 => k_is); (case c21 => k_is); (case k21 => k_is); (case a22 => k_is); (case l22 => k_is); (case c22 => k_is); (case k22 => k_is); (case z0 => k_is)
    (case z1 => k_is); (case z2 => k_is); (case z3 => k_is); (case z4 => k_is); (case z5 => k_is); (case z6 => k_is); (case z7 => k_is); (case z8 => k_is); (case z9 => k_is)
    (case z10 => k_is); (case z11 => k_is)
