import PyProof.Rows.All
import Wide.All
import OpenK.AllK
import Wide.FinOn
import HandS.ForMost
import HandS.Wide
import HandS.IsInst
import HandS.NoneIn
import HandS.Evl
import HandS.Zip
import HandS.Walk
import HandS.SetFor
import HandS.Style
import HandS.Text
import HandS.TryOnly
import HandS.FStr
import HandS.StrMore
import HandS.ReplaceLit
import HandS.ReplaceList
import HandS.Gcd
import HandS.WideBits
import HandS.Deep
import PyProof.Rows.Digits
import KE.KIntText
import KE.IntText
import HandS.Codes
import PySem.Challenge.RW_retrynest_k41_nestings_read
set_option Elab.async false
set_option linter.all false
set_option maxRecDepth 100000
set_option maxHeartbeats 4000000
namespace Rn
open PySem PySem.Spec PyProof.Rows L2

/-! ## heaps -/
theorem same_new {H : Hp} {p : Addr} {o : HO} (h : H p = none) : Same H (upd H p o) := fun b x e => by
  rw [upd_ne (ne_of_none e h)]
  exact e
theorem same_keep {H H' : Hp} {p : Addr} {o : HO} (e : Same H H') (h : H p = none) : Same H (upd H' p o) := fun b x q => by
  rw [upd_ne (ne_of_none q h)]
  exact e b x q
theorem sql {K : PySem.W.Frag} {H : Hp} {p : Addr} {xs : List V} (h : H p = some (.lst xs)) : SqL K H p xs := .inl (.inl h)
theorem sqt {K : PySem.W.Frag} {H : Hp} {p : Addr} {xs : List V} (h : H p = some (.tup xs)) : SqT K H p xs := .inl (.inl h)
/-- the source's two objects hidden -/
def hid (a d : Addr) (H : Hp) : Hp := fun b => if b = a ∨ b = d then none else H b
theorem hid_get {a d : Addr} {H : Hp} {b : Addr} {o : HO} (h : hid a d H b = some o) : H b = some o ∧ b ≠ a ∧ b ≠ d := by
  unfold hid at h
  by_cases e : b = a ∨ b = d
  · rw [if_pos e] at h
    cases h
  · rw [if_neg e] at h
    exact ⟨h, fun z => e (.inl z), fun z => e (.inr z)⟩
theorem hid_at {a d : Addr} {H : Hp} {b : Addr} {o : HO} (h : H b = some o) (ha : b ≠ a) (hd : b ≠ d) : hid a d H b = some o := by
  unfold hid
  rw [if_neg (fun z => z.elim ha hd)]
  exact h
theorem hid_none {a d : Addr} {H : Hp} {b : Addr} (h : H b = none) : hid a d H b = none := by
  unfold hid
  split
  · rfl
  · exact h
theorem hid_same {a d : Addr} {H H' : Hp} (e : Same H H') : Same (hid a d H) (hid a d H') := fun b o h => by
  obtain ⟨h1, h2, h3⟩ := hid_get h
  exact hid_at (e _ _ h1) h2 h3
theorem hid_src1 {a d : Addr} {H : Hp} {o : HO} : hid a d (upd H a o) = hid a d H := by
  funext b
  unfold hid
  by_cases e : b = a ∨ b = d
  · rw [if_pos e, if_pos e]
  · rw [if_neg e, if_neg e, upd_ne fun z => e (.inl z)]
theorem hid_src2 {a d : Addr} {H : Hp} {o : HO} : hid a d (upd H d o) = hid a d H := by
  funext b
  unfold hid
  by_cases e : b = a ∨ b = d
  · rw [if_pos e, if_pos e]
  · rw [if_neg e, if_neg e, upd_ne fun z => e (.inr z)]
theorem hid_oth {a d : Addr} {H : Hp} {p : Addr} {o : HO} (ha : p ≠ a) (hd : p ≠ d) : hid a d (upd H p o) = upd (hid a d H) p o := by
  funext b
  by_cases e : b = p
  · rw [e, upd_same]
    exact hid_at upd_same ha hd
  · rw [upd_ne e]
    unfold hid
    rw [upd_ne e]

/-! ## the source of draws: a list at a, its digits at d; at most n draws were mixed -/
def Src (H : Hp) (a d : Addr) (n : Int) : Prop := ∃ (cur mix cnt : Int) (ds : List Int), H a = some (.lst [.ref d, .int cur, .int mix, .int cnt]) ∧ H d = some (.lst (ds.map V.int)) ∧
  0 ≤ mix ∧ mix < 2305843009213693951 ∧ 0 ≤ cnt ∧ cnt ≤ n
theorem Src.ne {H : Hp} {a d : Addr} {n : Int} (s : Src H a d n) : a ≠ d := by
  obtain ⟨cur, mix, cnt, ds, h1, h2, _⟩ := s
  intro e
  rw [e] at h1
  rw [h1] at h2
  cases ds with
  | nil => cases h2
  | cons x r =>
    have z := Option.some.inj h2
    injection z with z
    rw [List.map_cons] at z
    injection z with z1 z2
    cases z1
theorem Src.lst1 {H : Hp} {a d : Addr} {n : Int} (s : Src H a d n) : ∃ o, H a = some o := let ⟨_, _, _, _, h, _⟩ := s; ⟨_, h⟩
theorem Src.lst2 {H : Hp} {a d : Addr} {n : Int} (s : Src H a d n) : ∃ o, H d = some o := let ⟨_, _, _, _, _, h, _⟩ := s; ⟨_, h⟩
theorem Src.same {H H' : Hp} {a d : Addr} {n : Int} (s : Src H a d n) (e : Same H H') : Src H' a d n := by
  obtain ⟨cur, mix, cnt, ds, h1, h2, h3⟩ := s
  exact ⟨cur, mix, cnt, ds, e _ _ h1, e _ _ h2, h3⟩
theorem Src.keep {H : Hp} {a d p : Addr} {o : HO} {n : Int} (s : Src H a d n) (ha : p ≠ a) (hd : p ≠ d) : Src (upd H p o) a d n := by
  obtain ⟨cur, mix, cnt, ds, h1, h2, h3⟩ := s
  exact ⟨cur, mix, cnt, ds, by rw [upd_ne ha.symm]; exact h1, by rw [upd_ne hd.symm]; exact h2, h3⟩
theorem Src.mono {H : Hp} {a d : Addr} {n m : Int} (s : Src H a d n) (h : n ≤ m) : Src H a d m := by
  obtain ⟨cur, mix, cnt, ds, h1, h2, h3, h4, h5, h6⟩ := s
  exact ⟨cur, mix, cnt, ds, h1, h2, h3, h4, h5, Int.le_trans h6 h⟩
theorem Src.new1 {H : Hp} {a d p : Addr} {n : Int} (s : Src H a d n) (h : H p = none) : p ≠ a ∧ p ≠ d := by
  obtain ⟨o, h1⟩ := s.lst1
  obtain ⟨u, h2⟩ := s.lst2
  exact ⟨(ne_of_none h1 h).symm, (ne_of_none h2 h).symm⟩

/-- what a call that draws at most c times does to the heap: all but the source stays, the source is a source -/
structure Adv (a d : Addr) (c : Int) (H H' : Hp) : Prop where
  same : Same (hid a d H) (hid a d H')
  src : ∀ n, Src H a d n → Src H' a d (n + c)
theorem Adv.refl {a d : Addr} {H : Hp} : Adv a d 0 H H := ⟨Same.refl _, fun n s => s.mono (by omega)⟩
theorem Adv.trans {a d : Addr} {c c' e : Int} {H H1 H2 : Hp} (x : Adv a d c H H1) (y : Adv a d c' H1 H2) (h : c + c' ≤ e) : Adv a d e H H2 :=
  ⟨x.same.trans y.same, fun n s => (y.src _ (x.src _ s)).mono (by omega)⟩
theorem Adv.mono {a d : Addr} {c e : Int} {H H1 : Hp} (x : Adv a d c H H1) (h : c ≤ e) : Adv a d e H H1 := ⟨x.same, fun n s => (x.src _ s).mono (by omega)⟩
theorem Adv.of {a d : Addr} {H H' : Hp} (e : Same H H') : Adv a d 0 H H' := ⟨hid_same e, fun n s => (s.same e).mono (by omega)⟩
/-- .. where a new object of the way has changed -/
theorem Adv.mut {a d : Addr} {c : Int} {H H' : Hp} {p : Addr} {o : HO} {n : Int} (x : Adv a d c H H') (s : Src H a d n) (h : H p = none) : Adv a d c H (upd H' p o) := by
  obtain ⟨h1, h2⟩ := s.new1 h
  refine ⟨?_, fun m t => (x.src m t).keep h1 h2⟩
  rw [hid_oth h1 h2]
  exact same_keep x.same (hid_none h)
/-- free behind is free ahead -/
theorem Adv.free {a d p : Addr} {c n : Int} {H H' : Hp} (x : Adv a d c H H') (s : Src H a d n) (h : H' p = none) : H p = none := by
  have s' := x.src n s
  obtain ⟨h1, h2⟩ := s'.new1 h
  cases q : H p with
  | none => rfl
  | some o =>
    have e := (hid_get (x.same p o (hid_at q h1 h2))).1
    rw [h] at e
    cases e
theorem Adv.made {a d : Addr} {c cur mix cnt cur' cnt' : Int} {H H' : Hp} {ds' : List Int} (e : Same (hid a d H) (hid a d H')) (h : H a = some (.lst [.ref d, .int cur, .int mix, .int cnt]))
    (h' : H' a = some (.lst [.ref d, .int cur', .int mix, .int cnt'])) (hd' : H' d = some (.lst (ds'.map V.int))) (h0 : cnt ≤ cnt') (h1 : cnt' ≤ cnt + c) : Adv a d c H H' := by
  refine ⟨e, fun n s => ?_⟩
  obtain ⟨cu, mi, cn, ds, a1, a2, a3, a4, a5, a6⟩ := s
  rw [h] at a1
  cases a1
  exact ⟨cur', mix, cnt', ds', h', hd', a3, a4, by omega, by omega⟩
theorem small64 {x b : Int} (h0 : 0 ≤ x) (h1 : x < b) (hb : b ≤ 18446744073709551616) : x.natAbs < 2 ^ 64 := by omega

/-! ## ints in lists -/
theorem map_get {ns : List Int} {i : Nat} {x : Int} (h : ns[i]? = some x) : (ns.map V.int)[i]? = some (.int x) := by
  rw [List.getElem?_map, h]
  rfl
theorem at_int {ns : List Int} {i : Int} (h0 : 0 ≤ i) (h : i < ns.length) : ∃ x, x ∈ ns ∧ ns[i.toNat]? = some x ∧ atI (ns.map V.int) i = some (.int x) := by
  obtain ⟨j, rfl⟩ : ∃ j : Nat, i = (j : Int) := ⟨i.toNat, by omega⟩
  have hi : j < ns.length := by omega
  exact ⟨ns[j], List.getElem_mem hi, List.getElem?_eq_getElem hi, atI_nat (map_get (List.getElem?_eq_getElem hi))⟩
theorem at_val {xs : List V} {i : Int} (h0 : 0 ≤ i) (h : i < xs.length) : ∃ x, x ∈ xs ∧ xs[i.toNat]? = some x ∧ atI xs i = some x := by
  obtain ⟨j, rfl⟩ : ∃ j : Nat, i = (j : Int) := ⟨i.toNat, by omega⟩
  have hi : j < xs.length := by omega
  exact ⟨xs[j], List.getElem_mem hi, List.getElem?_eq_getElem hi, atI_nat (List.getElem?_eq_getElem hi)⟩
theorem size_le {n : Nat} (h : n ≤ 100000) : n ≤ sizeLine := Nat.le_trans h (by decide)
theorem size_lt {n : Nat} (h : n < 100000) : n < sizeLine := Nat.lt_of_lt_of_le h (by decide)
mutual
theorem eqv_refl' : ∀ d : PyData, d.canLay0 = true → PyData.eqv d d = true
  | .none, _ => rfl
  | .bool b, _ => by simp [PyData.eqv]
  | .int i, _ => by simp [PyData.eqv]
  | .str x, _ => by simp [PyData.eqv]
  | .list xs, h => by
    simp only [PyData.eqv]
    exact eqvAll_refl' xs (by simpa [PyData.canLay0] using h)
  | .tuple xs, h => by
    simp only [PyData.eqv]
    exact eqvAll_refl' xs (by simpa [PyData.canLay0] using h)
  | .dict _, h => by simp [PyData.canLay0] at h
theorem eqvAll_refl' : ∀ ds : List PyData, PyData.canLayAll0 ds = true → PyData.eqvAll ds ds = true
  | [], _ => by simp [PyData.eqvAll]
  | d :: ds, h => by
    have h' : d.canLay0 = true ∧ PyData.canLayAll0 ds = true := by simpa [PyData.canLayAll0] using h
    simp only [PyData.eqvAll, Bool.and_eq_true]
    exact ⟨eqv_refl' d h'.1, eqvAll_refl' ds h'.2⟩
end
/-- a list of ints as data -/
def dInts (ns : List Int) : PyData := .list (ns.map .int)
theorem eqvAll_ints : ∀ ns ms : List Int, PyData.eqvAll (ns.map .int) (ms.map .int) = decide (ns = ms)
  | [], [] => by simp [PyData.eqvAll]
  | [], _ :: _ => by simp [PyData.eqvAll]
  | _ :: _, [] => by simp [PyData.eqvAll]
  | n :: ns, m :: ms => by
    have ih := eqvAll_ints ns ms
    simp only [List.map_cons, PyData.eqvAll, PyData.eqv, ih]
    by_cases h1 : n = m <;> by_cases h2 : ns = ms <;> simp [h1, h2]
theorem eqv_ints (ns ms : List Int) : PyData.eqv (dInts ns) (dInts ms) = decide (ns = ms) := by
  unfold dInts
  simp only [PyData.eqv]
  exact eqvAll_ints ns ms
theorem canLay_ints : ∀ ns : List Int, PyData.canLayAll0 (ns.map .int) = true
  | [] => by simp [PyData.canLayAll0]
  | n :: ns => by simp [PyData.canLayAll0, PyData.canLay0, canLay_ints ns]
theorem depth_ints : ∀ ns : List Int, PyData.depthAll (ns.map .int) ≤ 1
  | [] => by simp [PyData.depthAll]
  | n :: ns => by
    have := depth_ints ns
    simp only [List.map_cons, PyData.depthAll, PyData.depth]
    omega
theorem shaped_ints (ns : List Int) : SeqAt.shaped (dInts ns) = true := by
  have h := depth_ints ns
  unfold SeqAt.shaped
  rw [Bool.and_eq_true]
  refine ⟨?_, decide_eq_true ?_⟩
  · unfold dInts
    simp only [PyData.canLay0, canLay_ints]
  · unfold dInts
    simp only [PyData.depth]
    omega
theorem dp_all {K : PySem.W.Frag} {H : Hp} : ∀ ns : List Int, DpAll K H (ns.map V.int) (ns.map .int)
  | [] => .nil
  | n :: ns => .cons (.int n) (dp_all ns)
theorem dp_ints {K : PySem.W.Frag} {H : Hp} {p : Addr} {ns : List Int} (h : SqL K H p (ns.map V.int)) : Dp K H (.ref p) (dInts ns) := .lst h (dp_all ns)
theorem dp_nil {K : PySem.W.Frag} {H : Hp} {p : Addr} (h : SqL K H p []) : Dp K H (.ref p) (dInts []) := .lst h .nil

/-! ## loops -/
/-- for i, x in enumerate(xs), xs left as it is -/
theorem for_enum {K : PySem.W.Frag} {a : Addr} {xs : List V} {g : TG} {tb : TS} {D : Ends} {σ : L2.St} {H : Hp} (Pv : Nat → L2.St → Hp → Prop) (h0 : Pv 0 σ H)
    (hl : ∀ i σ H, i ≤ xs.length → Pv i σ H → SqL K H a xs)
    (hs : ∀ i x σ H T, xs[i]? = some x → Pv i σ H → H T = none → g (.ref T) σ (upd H T (.tup [.int (i : Nat), x])) fun σ2 H2 => tb { D with nx := Pv (i + 1), ct := Pv (i + 1), bk := D.nx } σ2 H2)
    (hd : ∀ σ H, Pv xs.length σ H → D.nx σ H) :
    ∃ W : Nat → Nat → L2.St → Hp → Prop, (∃ m, W 0 m σ H) ∧ ∀ i m σ H, W i m σ H →
      ((Ite K a).stop i H ∧ D.nx σ H) ∨ ((Ite K a).go i H ∧ ∃ N : L2.St → Hp → Prop, (∀ σ' H', N σ' H' → ∃ m', m' < m ∧ W (i + 1) m' σ' H') ∧
        ∀ x H', (Ite K a).yld i H x H' → g x σ H' fun σ2 H2 => tb { D with nx := N, ct := N, bk := D.nx } σ2 H2) := by
  refine ⟨fun i m σ' H' => m + i = xs.length ∧ Pv i σ' H', ⟨xs.length, rfl, h0⟩, fun i m σ' H' hW => ?_⟩
  obtain ⟨em, hp⟩ := hW
  have hq := hl i σ' H' (by omega) hp
  by_cases hi : i < xs.length
  · refine .inr ⟨⟨xs, xs[i], hq, List.getElem?_eq_getElem hi⟩, Pv (i + 1), fun σ2 H2 h2 => ⟨m - 1, by omega, by omega, h2⟩, fun x H2 hy => ?_⟩
    obtain ⟨T, y, rfl, nT, rfl, hx⟩ := hy
    exact hs i y σ' H' T (hx xs hq) hp nT
  · have e : i = xs.length := by omega
    subst e
    exact .inl ⟨⟨xs, hq, Nat.le_refl _⟩, hd σ' H' hp⟩

/-! ## kinds -/
section
variable {K : PySem.W.Frag} {H : Hp} {p : Addr} {xs : List V} {Q : VK}
theorem isi_tt (h : H p = some (.tup xs)) (q : Q (.bl true) H) : rIsi K [.ref p, .ty "tuple"] H Q := ⟨_, _, _, _, _, rfl, .ty "tuple", .base (.tup h), kit_ty (by decide +kernel), q⟩
theorem isi_lt (h : H p = some (.lst xs)) (q : Q (.bl false) H) : rIsi K [.ref p, .ty "tuple"] H Q := ⟨_, _, _, _, _, rfl, .ty "tuple", .base (.lst h), kit_ty (by decide +kernel), q⟩
theorem isi_ll (h : H p = some (.lst xs)) (q : Q (.bl true) H) : rIsi K [.ref p, .ty "list"] H Q := ⟨_, _, _, _, _, rfl, .ty "list", .base (.lst h), kit_ty (by decide +kernel), q⟩
theorem isi_tl (h : H p = some (.tup xs)) (q : Q (.bl false) H) : rIsi K [.ref p, .ty "list"] H Q := ⟨_, _, _, _, _, rfl, .ty "list", .base (.tup h), kit_ty (by decide +kernel), q⟩
end

theorem units1 {n c : Nat} (h : n + 64 < c) : n + 1 < c := by omega
theorem yes_thn {σ : L2.St} {H : Hp} {A B : Hp → Prop} (h : A H) : tYes σ H (fun b H3 => if b = true then A H3 else B H3) := by
  change (if true = true then A H else B H)
  exact (if_pos rfl).mpr h
/-! ## policies and layers -/
/-- the inner one, then each wait of the outer one and the inner one again -/
def nestL {α : Type} (xs ys : List α) : List α := xs ++ ys.flatMap fun y => y :: xs
theorem nestL_map {α β : Type} (f : α → β) (xs ys : List α) : (nestL xs ys).map f = nestL (xs.map f) (ys.map f) := by
  unfold nestL
  rw [List.map_append, List.map_flatMap, List.flatMap_map]
  congr 1
theorem flatMap_len {α β : Type} (f : α → List β) (n : Nat) (h : ∀ x, (f x).length = n) : ∀ l : List α, (l.flatMap f).length = l.length * n
  | [] => by simp
  | x :: l => by
    rw [List.flatMap_cons, List.length_append, h x, flatMap_len f n h l, List.length_cons, Nat.succ_mul, Nat.add_comm]
theorem nestL_len {α : Type} (xs ys : List α) : (nestL xs ys).length + 1 = (xs.length + 1) * (ys.length + 1) := by
  unfold nestL
  rw [List.length_append, flatMap_len _ (xs.length + 1) (fun _ => rfl)]
  generalize xs.length = a
  generalize ys.length = b
  have e1 : (a + 1) * (b + 1) = a * b + a + (b + 1) := by rw [Nat.add_mul, Nat.mul_add, Nat.mul_one, Nat.one_mul]
  have e2 : b * (a + 1) = a * b + b := by rw [Nat.mul_add, Nat.mul_one, Nat.mul_comm]
  omega
theorem nestL_nil {α : Type} (xs : List α) : nestL xs [] = xs := by
  unfold nestL
  simp
theorem nil_nestL {α : Type} (ys : List α) : nestL [] ys = ys := by
  unfold nestL
  simp
theorem nestL_mem {α : Type} {xs ys : List α} {z : α} (h : z ∈ nestL xs ys) : z ∈ xs ∨ z ∈ ys := by
  unfold nestL at h
  rw [List.mem_append, List.mem_flatMap] at h
  rcases h with h | ⟨y, hy, h⟩
  · exact .inl h
  · rcases List.mem_cons.mp h with e | h
    · exact .inr (e ▸ hy)
    · exact .inl h
inductive Lay where
  | pol (ns : List Int)
  | con (w n : Int)
def Lay.cnt : Lay → Int
  | .pol ns => (ns.length : Int) + 1
  | .con _ n => n
def Lay.waits : Lay → List Int
  | .pol ns => ns
  | .con w n => List.replicate (n - 1).toNat w
def Lay.ok : Lay → Bool
  | .pol ns => ns.all fun x => decide (0 ≤ x)
  | .con w n => decide (0 ≤ w) && decide (1 ≤ n)
theorem Lay.ok_con (w n : Int) : (Lay.con w n).ok = (decide (0 ≤ w) && decide (1 ≤ n)) := rfl
theorem Lay.ok_pol (ns : List Int) : (Lay.pol ns).ok = ns.all fun x => decide (0 ≤ x) := rfl
def LayAt (H : Hp) (v : V) : Lay → Prop
  | .pol ns => ∃ p, v = .ref p ∧ H p = some (.lst (ns.map V.int))
  | .con w n => ∃ p, v = .ref p ∧ H p = some (.tup [.int w, .int n])
theorem LayAt.same {H H' : Hp} {v : V} {L : Lay} (h : LayAt H v L) (e : Same H H') : LayAt H' v L := by
  cases L with
  | pol ns => obtain ⟨p, h1, h2⟩ := h; exact ⟨p, h1, e _ _ h2⟩
  | con w n => obtain ⟨p, h1, h2⟩ := h; exact ⟨p, h1, e _ _ h2⟩
theorem LayAt.ref {H : Hp} {v : V} {L : Lay} (h : LayAt H v L) : ∃ p, v = .ref p := by
  cases L with
  | pol ns => obtain ⟨p, h1, _⟩ := h; exact ⟨p, h1⟩
  | con w n => obtain ⟨p, h1, _⟩ := h; exact ⟨p, h1⟩
def NestAt (H : Hp) (q : Addr) (Ls : List Lay) : Prop := ∃ vs, H q = some (.lst vs) ∧ vs.length = Ls.length ∧ ∀ (i : Nat) v L, vs[i]? = some v → Ls[i]? = some L → LayAt H v L
theorem NestAt.same {H H' : Hp} {q : Addr} {Ls : List Lay} (h : NestAt H q Ls) (e : Same H H') : NestAt H' q Ls := by
  obtain ⟨vs, h1, h2, h3⟩ := h
  exact ⟨vs, e _ _ h1, h2, fun i v L a b => (h3 i v L a b).same e⟩
theorem LayAt.con_pos {L : Lay} (h : L.ok = true) : 1 ≤ L.cnt := by
  cases L with
  | pol ns => show (1 : Int) ≤ (ns.length : Int) + 1; omega
  | con w n =>
    unfold Lay.ok at h
    rw [Bool.and_eq_true] at h
    exact of_decide_eq_true h.2
def attOf (Ls : List Lay) : Int := Ls.foldl (fun t L => t * L.cnt) 1
def flatL (Ls : List Lay) : List Int := Ls.foldl (fun acc L => if L.cnt > 1 then nestL acc L.waits else acc) []
theorem nest_of {H : Hp} {q : Addr} {vs : List V} {Ls : List Lay} (h : H q = some (.lst vs)) (p : Paired (LayAt H) vs Ls) : NestAt H q Ls := by
  refine ⟨vs, h, Paired.length p, ?_⟩
  clear h
  induction p with
  | nil =>
    intro i v L h
    cases h
  | cons r t ih =>
    intro i v L h1 h2
    cases i with
    | zero =>
      cases h1
      cases h2
      exact r
    | succ i => exact ih i v L h1 h2
theorem flatL_eq : ∀ (Ls : List Lay) (acc : List Int), (∀ L ∈ Ls, L.ok = true) → Ls.foldl (fun acc L => if L.cnt > 1 then nestL acc L.waits else acc) acc = Ls.foldl (fun acc L => nestL acc L.waits) acc
  | [], _, _ => rfl
  | L :: Ls, acc, h => by
    have h1 := LayAt.con_pos (h L List.mem_cons_self)
    have e : (if L.cnt > 1 then nestL acc L.waits else acc) = nestL acc L.waits := by
      split
      · rfl
      · have hw : L.waits = [] := by
          cases L with
          | pol ns =>
            have : (ns.length : Int) + 1 = (Lay.pol ns).cnt := rfl
            exact List.length_eq_zero_iff.mp (by show ns.length = 0; omega)
          | con w n =>
            have : n = (Lay.con w n).cnt := rfl
            show List.replicate (n - 1).toNat w = []
            rw [show (n - 1).toNat = 0 by omega]
            rfl
        rw [hw, nestL_nil]
    rw [List.foldl_cons, List.foldl_cons, e]
    exact flatL_eq Ls _ fun M hM => h M (List.mem_cons_of_mem _ hM)
theorem flatL_fold {Ls : List Lay} (h : ∀ L ∈ Ls, L.ok = true) : flatL Ls = Ls.foldl (fun acc L => nestL acc L.waits) [] := flatL_eq Ls [] h
theorem nestL_assoc {α : Type} (xs ys zs : List α) : nestL (nestL xs ys) zs = nestL xs (nestL ys zs) := by
  unfold nestL
  rw [List.flatMap_append, List.append_assoc]
  congr 1
  congr 1
  induction zs with
  | nil => rfl
  | cons z zs ih =>
    simp only [List.flatMap_cons, List.flatMap_append, List.cons_append, List.append_assoc] at ih ⊢
    rw [ih]
theorem pol_ok {ns : List Int} (h : ∀ x ∈ ns, 0 ≤ x ∧ x < 1000000000000) : (Lay.pol ns).ok = true := by
  rw [Lay.ok_pol, List.all_eq_true]
  exact fun x hx => decide_eq_true (h x hx).1
theorem ne_no {ns ms : List Int} {A B : Prop} (h : ns = ms) (b : B) : if (!PyData.eqv (dInts ns) (dInts ms)) = true then A else B := by
  rw [eqv_ints, decide_eq_true h]
  exact iteF b

/-! ## rules of the written part in a comprehension's block -/
section
variable {X : Cx} {K : PySem.W.Frag}
theorem ix_listK (h : X.K = K) : IxR X (rIxL K) := by subst h; exact ix_list
theorem ix_tupK (h : X.K = K) : IxR X (rIxT K) := by subst h; exact ix_tup
theorem sl_listK (h : X.K = K) : SlR X (rSlL K) := by subst h; exact sl_list
theorem op_eqDK (h : X.K = K) (hu : X.A.units + 64 < cLine) : OpR X (compareOp .Eq) (rEqD K) := by subst h; exact op_eqD hu
theorem op_neDK (h : X.K = K) (hu : X.A.units + 64 < cLine) : OpR X (compareOp .NotEq) (rNeD K) := by subst h; exact op_neD hu
theorem op_in_seqK (h : X.K = K) : OpR X (compareOp .In) (rIn K false) := by subst h; exact op_in_seq
theorem op_notIn_seqK (h : X.K = K) : OpR X (compareOp .NotIn) (rIn K true) := by subst h; exact op_notIn_seq
theorem call_isiK1 (h : X.K = K) : CallR X (.builtin "isinstance") (rIsi K) := by subst h; exact call_isi
def rLenK (K : PySem.W.Frag) : List V → Hp → VK → Prop := fun xs H Q => ∃ p ys, xs = [.ref p] ∧ (SqL K H p ys ∨ SqT K H p ys) ∧ Q (.int (ys.length : Int)) H
theorem call_len_seqK (h : X.K = K) : CallR X (.builtin "len") (rLenK K) := by subst h; exact call_len_seq
def rListK (K : PySem.W.Frag) : List V → Hp → VK → Prop := fun xs H Q => ∃ p ys, xs = [.ref p] ∧ (SqL K H p ys ∨ SqT K H p ys) ∧ ∀ l, H l = none → Q (.ref l) (upd H l (.lst ys))
theorem call_list_ofK (h : X.K = K) : CallR X (.type "list") (rListK K) := by subst h; exact call_list_of
end
theorem refs_ints {ps : List Addr} {ws : List Int} (h : ps.map V.ref = ws.map V.int) : ps = [] := by
  cases ps with
  | nil => rfl
  | cons p ps =>
    cases ws with
    | nil => cases h
    | cons w ws =>
      injection h with h1 h2
      cases h1
theorem three {α : Type} {l : List α} (h : l.length = 3) : ∃ x y z, l = [x, y, z] := by
  match l, h with
  | [x, y, z], _ => exact ⟨x, y, z, rfl⟩
theorem ixN_at {n : Nat} {i : Int} (h0 : 0 ≤ i) (h1 : i < n) : ixN n i = some i.toNat := by
  unfold ixN
  rw [if_pos h0, if_pos h1]
theorem eq_yes {ns ms : List Int} (h : ns = ms) : PyData.eqv (dInts ns) (dInts ms) = true := by rw [eqv_ints, decide_eq_true h]
theorem nestL_cons {α : Type} (ns : List α) (m : α) (ms : List α) : nestL ns (m :: ms) = ns ++ m :: nestL ns ms := by
  unfold nestL
  rw [List.flatMap_cons, List.cons_append]
theorem nestL_get {α : Type} (ns : List α) : ∀ (ms : List α) (j : Nat), j < (nestL ns ms).length → (nestL ns ms)[j]? = if (j + 1) % (ns.length + 1) = 0 then ms[(j + 1) / (ns.length + 1) - 1]? else ns[(j + 1) % (ns.length + 1) - 1]?
  | [], j, h => by
    rw [nestL_nil] at h ⊢
    rw [Nat.mod_eq_of_lt (by omega), if_neg (by omega)]
    rfl
  | m :: ms, j, h => by
    rw [nestL_cons] at h ⊢
    by_cases h1 : j < ns.length
    · rw [List.getElem?_append_left h1, Nat.mod_eq_of_lt (by omega), if_neg (by omega)]
      rfl
    · by_cases h2 : j = ns.length
      · subst h2
        rw [List.getElem?_append_right (Nat.le_refl _), Nat.sub_self, Nat.mod_self, if_pos rfl, Nat.div_self (by omega)]
        rfl
      · obtain ⟨t, rfl⟩ : ∃ t, j = ns.length + 1 + t := ⟨j - (ns.length + 1), by omega⟩
        rw [List.getElem?_append_right (by omega), show ns.length + 1 + t - ns.length = t + 1 by omega, List.getElem?_cons_succ]
        rw [List.length_append, List.length_cons] at h
        rw [nestL_get ns ms t (by omega), show ns.length + 1 + t + 1 = (t + 1) + (ns.length + 1) by omega, Nat.add_mod_right, Nat.add_div_right _ (by omega)]
        by_cases h3 : (t + 1) % (ns.length + 1) = 0
        · rw [if_pos h3, if_pos h3, Nat.succ_sub_one]
          have : 1 ≤ (t + 1) / (ns.length + 1) := by
            have := Nat.div_add_mod (t + 1) (ns.length + 1)
            rw [h3] at this
            rcases Nat.eq_zero_or_pos ((t + 1) / (ns.length + 1)) with z | z
            · rw [z] at this
              omega
            · exact z
          obtain ⟨u, hu⟩ : ∃ u, (t + 1) / (ns.length + 1) = u + 1 := ⟨(t + 1) / (ns.length + 1) - 1, by omega⟩
          rw [hu]
          rfl
        · rw [if_neg h3, if_neg h3]
theorem foldl_nestL : ∀ (Ls : List Lay) (xs acc : List Int), Ls.foldl (fun acc L => nestL acc L.waits) (nestL xs acc) = nestL xs (Ls.foldl (fun acc L => nestL acc L.waits) acc)
  | [], _, _ => rfl
  | L :: Ls, xs, acc => by
    rw [List.foldl_cons, List.foldl_cons, nestL_assoc]
    exact foldl_nestL Ls xs (nestL acc L.waits)
theorem flatL_cons {L : Lay} {Ls : List Lay} (h : ∀ M ∈ L :: Ls, M.ok = true) : flatL (L :: Ls) = nestL L.waits (flatL Ls) := by
  rw [flatL_fold h, flatL_fold fun M hM => h M (List.mem_cons_of_mem _ hM), List.foldl_cons, nil_nestL]
  have := foldl_nestL Ls L.waits []
  rw [nestL_nil] at this
  exact this
/-- a nesting whose layers' objects are newer than H0 and none of them is the nesting's own list -/
def NestV (H0 G : Hp) (p : Addr) (vs : List V) (Ls : List Lay) : Prop := G p = some (.lst vs) ∧ vs.length = Ls.length ∧ (∀ (i : Nat) v L, vs[i]? = some v → Ls[i]? = some L → LayAt G v L) ∧ ∀ x, V.ref x ∈ vs → x ≠ p ∧ H0 x = none
theorem NestV.nest {H0 G : Hp} {p : Addr} {vs : List V} {Ls : List Lay} (h : NestV H0 G p vs Ls) : NestAt G p Ls := ⟨vs, h.1, h.2.1, h.2.2.1⟩
theorem NestV.same {H0 G G' : Hp} {p : Addr} {vs : List V} {Ls : List Lay} (h : NestV H0 G p vs Ls) (e : Same G G') : NestV H0 G' p vs Ls :=
  ⟨e _ _ h.1, h.2.1, fun i v L a b => (h.2.2.1 i v L a b).same e, h.2.2.2⟩
theorem NestV.nil {H0 G : Hp} {p : Addr} (h : G p = some (.lst [])) : NestV H0 G p [] [] := ⟨h, rfl, (fun _ _ _ z => nomatch z), (fun _ z => nomatch z)⟩
theorem LayAt.keep {G : Hp} {p : Addr} {o : HO} {v : V} {L : Lay} (h : LayAt G v L) (ne : ∀ x, v = V.ref x → x ≠ p) : LayAt (upd G p o) v L := by
  cases L with
  | pol ns => obtain ⟨x, e, z⟩ := h; exact ⟨x, e, by rw [upd_ne (ne x e)]; exact z⟩
  | con w n => obtain ⟨x, e, z⟩ := h; exact ⟨x, e, by rw [upd_ne (ne x e)]; exact z⟩
theorem NestV.push {H0 G : Hp} {p x : Addr} {vs : List V} {Ls : List Lay} {L : Lay} (h : NestV H0 G p vs Ls) (hx : LayAt G (.ref x) L) (ne : x ≠ p) (fr : H0 x = none) :
    NestV H0 (upd G p (.lst (vs ++ [.ref x]))) p (vs ++ [.ref x]) (Ls ++ [L]) := by
  obtain ⟨h1, h2, h3, h4⟩ := h
  refine ⟨upd_same, by rw [List.length_append, List.length_append, h2]; rfl, fun i v M a b => ?_, fun y hy => ?_⟩
  · by_cases hi : i < vs.length
    · rw [List.getElem?_append_left hi] at a
      rw [List.getElem?_append_left (by omega)] at b
      exact (h3 i v M a b).keep fun y e => (h4 y (e ▸ List.mem_of_getElem? a)).1
    · rw [List.getElem?_append_right (by omega)] at a
      rw [List.getElem?_append_right (by omega), ← h2] at b
      generalize i - vs.length = k at *
      cases k with
      | zero =>
        cases a
        cases b
        exact hx.keep fun y e => by cases e; exact ne
      | succ k => cases a
  · rcases List.mem_append.mp hy with z | z
    · exact h4 y z
    · have := List.mem_singleton.mp z
      cases this
      exact ⟨ne, fr⟩
/-- one of its lists of ints is changed in place, its length kept -/
theorem NestV.turn {H0 G : Hp} {p x : Addr} {vs : List V} {Ls : List Lay} {ws us : List Int} (h : NestV H0 G p vs Ls) (hx : G x = some (.lst (ws.map V.int))) (ne : x ≠ p) (hl : us.length = ws.length) :
    ∃ Ms : List Lay, NestV H0 (upd G x (.lst (us.map V.int))) p vs Ms ∧ Ms.map Lay.cnt = Ls.map Lay.cnt ∧ ∀ M ∈ Ms, M ∈ Ls ∨ (M = .pol us ∧ Lay.pol ws ∈ Ls) := by
  obtain ⟨h1, h2, h3, h4⟩ := h
  suffices key : ∀ (vs : List V) (Ls : List Lay), vs.length = Ls.length → (∀ (i : Nat) v L, vs[i]? = some v → Ls[i]? = some L → LayAt G v L) →
      ∃ Ms : List Lay, vs.length = Ms.length ∧ (∀ (i : Nat) v L, vs[i]? = some v → Ms[i]? = some L → LayAt (upd G x (.lst (us.map V.int))) v L) ∧ Ms.map Lay.cnt = Ls.map Lay.cnt ∧ ∀ M ∈ Ms, M ∈ Ls ∨ (M = .pol us ∧ Lay.pol ws ∈ Ls) by
    obtain ⟨Ms, k1, k2, k3, k4⟩ := key vs Ls h2 h3
    exact ⟨Ms, ⟨by rw [upd_ne ne.symm]; exact h1, k1, k2, h4⟩, k3, k4⟩
  clear h1 h2 h3 h4
  intro vs
  induction vs with
  | nil =>
    intro Ls hl _
    have : Ls = [] := List.length_eq_zero_iff.mp hl.symm
    subst this
    exact ⟨[], rfl, (fun _ _ _ z => nomatch z), rfl, (fun _ z => nomatch z)⟩
  | cons v vs ih =>
    intro Ls hlen hat
    cases Ls with
    | nil => cases hlen
    | cons L Ls =>
      obtain ⟨Ms, k1, k2, k3, k4⟩ := ih Ls (by simpa using hlen) fun i u M a b => hat (i + 1) u M a b
      have h0 := hat 0 v L rfl rfl
      by_cases e : v = V.ref x
      · subst e
        have hL : L = .pol ws := by
          cases L with
          | pol ns =>
            obtain ⟨y, e, z⟩ := h0
            cases e
            rw [hx] at z
            injection z with z
            injection z with z
            have : ∀ (as bs : List Int), as.map V.int = bs.map V.int → as = bs := by
              intro as
              induction as with
              | nil => intro bs q; cases bs with
                | nil => rfl
                | cons b bs => cases q
              | cons a as ih => intro bs q; cases bs with
                | nil => cases q
                | cons b bs =>
                  injection q with q1 q2
                  injection q1 with q1
                  rw [q1, ih bs q2]
            rw [this _ _ z]
          | con w n =>
            obtain ⟨y, e, z⟩ := h0
            cases e
            rw [hx] at z
            cases z
        refine ⟨.pol us :: Ms, by rw [List.length_cons, List.length_cons, k1], fun i u M a b => ?_, ?_, fun M hM => ?_⟩
        · cases i with
          | zero =>
            cases a
            cases b
            exact ⟨x, rfl, upd_same⟩
          | succ i => exact k2 i u M a b
        · rw [List.map_cons, List.map_cons, k3, hL]
          show ((us.length : Int) + 1) :: _ = ((ws.length : Int) + 1) :: _
          rw [hl]
        · rcases List.mem_cons.mp hM with z | z
          · exact .inr ⟨z, by rw [hL]; exact List.mem_cons_self⟩
          · rcases k4 M z with z | ⟨z1, z2⟩
            · exact .inl (List.mem_cons_of_mem _ z)
            · exact .inr ⟨z1, List.mem_cons_of_mem _ z2⟩
      · refine ⟨L :: Ms, by rw [List.length_cons, List.length_cons, k1], fun i u M a b => ?_, ?_, fun M hM => ?_⟩
        · cases i with
          | zero =>
            cases a
            cases b
            exact h0.keep fun y q z => e (by rw [q, z])
          | succ i => exact k2 i u M a b
        · rw [List.map_cons, List.map_cons, k3]
        · rcases List.mem_cons.mp hM with z | z
          · exact .inl (z ▸ List.mem_cons_self)
          · rcases k4 M z with z | ⟨z1, z2⟩
            · exact .inl (List.mem_cons_of_mem _ z)
            · exact .inr ⟨z1, List.mem_cons_of_mem _ z2⟩
theorem attOf_cnt : ∀ (Ls : List Lay) (t : Int), Ls.foldl (fun t L => t * L.cnt) t = (Ls.map Lay.cnt).foldl (fun t c => t * c) t
  | [], _ => rfl
  | L :: Ls, t => by
    rw [List.foldl_cons, List.map_cons, List.foldl_cons]
    exact attOf_cnt Ls _
theorem attOf_same {Ls Ms : List Lay} (h : Ms.map Lay.cnt = Ls.map Lay.cnt) : attOf Ms = attOf Ls := by
  unfold attOf
  rw [attOf_cnt, attOf_cnt, h]
/-- a layer that a law draws -/
def Lay.nice (L : Lay) : Prop := L.ok = true ∧ match L with
  | .pol ns => ns.length ≤ 60 ∧ ∀ x ∈ ns, 0 ≤ x ∧ x < 1000000000000
  | .con w n => w < 1000000000000 ∧ n < 1000000000000000000000
theorem Lay.nice_pol {ns : List Int} (h : ns.length ≤ 60) (hb : ∀ x ∈ ns, 0 ≤ x ∧ x < 1000000000000) : (Lay.pol ns).nice := ⟨pol_ok hb, h, hb⟩
theorem Lay.nice_con {w n : Int} (h0 : 0 ≤ w) (h1 : w < 1000000000000) (h2 : 1 ≤ n) (h3 : n < 1000000000000000000000) : (Lay.con w n).nice :=
  ⟨by rw [Lay.ok_con, decide_eq_true h0, decide_eq_true h2]; rfl, h1, h3⟩
theorem attOf_snoc (Ls : List Lay) (L : Lay) : attOf (Ls ++ [L]) = attOf Ls * L.cnt := by
  unfold attOf
  rw [List.foldl_append]
  rfl
theorem attOf_lt : ∀ n (Ls : List Lay), Ls.length = n → (∀ L ∈ Ls, L.ok = true ∧ L.cnt < 2 ^ 100) → 0 < attOf Ls ∧ (attOf Ls).natAbs < 2 ^ (100 * n + 1)
  | 0, Ls, e, _ => by
    have e' : Ls = [] := List.length_eq_zero_iff.mp e
    subst e'
    exact ⟨by decide, by decide⟩
  | n + 1, Ls, e, h => by
    have hne : Ls ≠ [] := fun z => by rw [z] at e; cases e
    obtain ⟨Ms, L, rfl⟩ : ∃ Ms L, Ls = Ms ++ [L] := ⟨_, _, (List.dropLast_concat_getLast hne).symm⟩
    rw [List.length_append] at e
    obtain ⟨i1, i2⟩ := attOf_lt n Ms (by simpa using e) fun M hM => h M (List.mem_append_left _ hM)
    obtain ⟨h1, h2⟩ := h L (List.mem_append_right _ List.mem_cons_self)
    have h3 := LayAt.con_pos h1
    rw [attOf_snoc]
    refine ⟨Int.mul_pos i1 (by omega), ?_⟩
    have z := wide_lt (i := attOf Ms) (j := L.cnt) (b := 100) i2 (by omega)
    rw [show 100 * (n + 1) + 1 = 100 * n + 1 + 100 by omega]
    exact z
theorem flatL_snoc (Ls : List Lay) (L : Lay) : flatL (Ls ++ [L]) = if L.cnt > 1 then nestL (flatL Ls) L.waits else flatL Ls := by
  unfold flatL
  rw [List.foldl_append]
  rfl
theorem waits_len {L : Lay} (h : L.ok = true) : (L.waits.length : Int) + 1 = L.cnt := by
  cases L with
  | pol ns => rfl
  | con w n =>
    have := LayAt.con_pos h
    have : 1 ≤ n := this
    show ((List.replicate (n - 1).toNat w).length : Int) + 1 = n
    rw [List.length_replicate]
    omega
theorem flatL_len : ∀ n (Ls : List Lay), Ls.length = n → (∀ L ∈ Ls, L.ok = true) → ((flatL Ls).length : Int) + 1 = attOf Ls
  | 0, Ls, e, _ => by
    have e' : Ls = [] := List.length_eq_zero_iff.mp e
    subst e'
    rfl
  | n + 1, Ls, e, h => by
    have hne : Ls ≠ [] := fun z => by rw [z] at e; cases e
    obtain ⟨Ms, L, rfl⟩ : ∃ Ms L, Ls = Ms ++ [L] := ⟨_, _, (List.dropLast_concat_getLast hne).symm⟩
    rw [List.length_append] at e
    have ih := flatL_len n Ms (by simpa using e) fun M hM => h M (List.mem_append_left _ hM)
    have h1 := h L (List.mem_append_right _ List.mem_cons_self)
    have h3 := LayAt.con_pos h1
    have h4 := waits_len h1
    rw [attOf_snoc, flatL_snoc, ← ih]
    split
    · have e5 := nestL_len (flatL Ms) L.waits
      rw [← h4]
      exact_mod_cast e5
    · have : L.cnt = 1 := by omega
      rw [this, Int.mul_one]
theorem attOf_part : ∀ (Ms Ls : List Lay), (∀ L ∈ Ls, L.ok = true) → (∀ L ∈ Ms, L.ok = true) → 1 ≤ attOf Ms ∧ attOf Ms ≤ attOf (Ms ++ Ls)
  | Ms, [], _, h => by
    rw [List.append_nil]
    refine ⟨?_, Int.le_refl _⟩
    have := flatL_len _ Ms rfl h
    omega
  | Ms, L :: Ls, h0, h => by
    have h1 := attOf_part (Ms ++ [L]) Ls (fun M hM => h0 M (List.mem_cons_of_mem _ hM)) (fun M hM => by
      rcases List.mem_append.mp hM with z | z
      · exact h M z
      · rw [List.mem_singleton.mp z]
        exact h0 L List.mem_cons_self)
    rw [List.append_assoc] at h1
    have h2 := LayAt.con_pos (h0 L List.mem_cons_self)
    have h3 := flatL_len _ Ms rfl h
    rw [attOf_snoc] at h1
    have h4 : attOf Ms * 1 ≤ attOf Ms * L.cnt := Int.mul_le_mul_of_nonneg_left h2 (by omega)
    refine ⟨by omega, ?_⟩
    have h5 : attOf Ms * L.cnt ≤ attOf (Ms ++ ([L] ++ Ls)) := h1.2
    have h6 : Ms ++ L :: Ls = Ms ++ ([L] ++ Ls) := rfl
    rw [h6]
    omega
theorem cnt_le {Ls : List Lay} (h : ∀ L ∈ Ls, L.ok = true) {L : Lay} (hL : L ∈ Ls) : L.cnt ≤ attOf Ls := by
  obtain ⟨As, Bs, rfl⟩ := List.append_of_mem hL
  have h1 := attOf_part As [] (fun _ z => nomatch z) (fun M hM => h M (List.mem_append_left _ hM))
  have h2 := attOf_part (As ++ [L]) Bs (fun M hM => h M (List.mem_append_right _ (List.mem_cons_of_mem _ hM))) (fun M hM => by
    rcases List.mem_append.mp hM with z | z
    · exact h M (List.mem_append_left _ z)
    · rw [List.mem_singleton.mp z]
      exact h L hL)
  have h3 := LayAt.con_pos (h L hL)
  rw [attOf_snoc, List.append_assoc] at h2
  have h4 : 1 * L.cnt ≤ attOf As * L.cnt := Int.mul_le_mul_of_nonneg_right h1.1 (by omega)
  have h5 : attOf As * L.cnt ≤ attOf (As ++ ([L] ++ Bs)) := h2.2
  have h6 : As ++ L :: Bs = As ++ ([L] ++ Bs) := rfl
  rw [h6]
  omega
theorem attOf_pos {Ls : List Lay} (h : ∀ L ∈ Ls, L.ok = true) : 1 ≤ attOf Ls := (attOf_part Ls [] (fun _ z => nomatch z) h).1
theorem part_left {t c left most : Int} (ht : 1 ≤ t) (hc : 1 ≤ c) (hl : c ≤ left) (h : t * left ≤ most) : 1 ≤ left / c ∧ t * c * (left / c) ≤ most := by
  refine ⟨by rw [Int.le_ediv_iff_mul_le (by omega)]; omega, ?_⟩
  have h1 : c * (left / c) ≤ left := by
    have := Int.mul_ediv_add_emod left c
    have := Int.emod_nonneg left (show c ≠ 0 by omega)
    omega
  rw [Int.mul_assoc]
  exact Int.le_trans (Int.mul_le_mul_of_nonneg_left h1 (by omega)) h
theorem le_left {t left most : Int} (ht : 1 ≤ t) (hl : 1 ≤ left) (h : t * left ≤ most) : t ≤ most := by
  have : t * 1 ≤ t * left := Int.mul_le_mul_of_nonneg_left hl (by omega)
  omega
theorem rep_flat {α : Type} (x : α) : ∀ m : Nat, (List.replicate m [x]).flatten = List.replicate m x
  | 0 => rfl
  | m + 1 => by
    rw [List.replicate_succ, List.flatten_cons, rep_flat x m, List.replicate_succ]
    rfl
def Lay.dat : Lay → PyData
  | .pol ns => dInts ns
  | .con w n => .tuple [.int w, .int n]
theorem dp_lay {K : PySem.W.Frag} {G : Hp} {v : V} {L : Lay} (h : LayAt G v L) : Dp K G v L.dat := by
  cases L with
  | pol ns => obtain ⟨p, rfl, hp⟩ := h; exact dp_ints (sql hp)
  | con w n => obtain ⟨p, rfl, hp⟩ := h; exact .tup (sqt hp) (.cons (.int w) (.cons (.int n) .nil))
theorem dp_lays {K : PySem.W.Frag} {G : Hp} : ∀ (vs : List V) (Ls : List Lay), vs.length = Ls.length → (∀ (i : Nat) v L, vs[i]? = some v → Ls[i]? = some L → LayAt G v L) → DpAll K G vs (Ls.map Lay.dat)
  | [], [], _, _ => .nil
  | [], _ :: _, h, _ => by cases h
  | _ :: _, [], h, _ => by cases h
  | v :: vs, L :: Ls, h, hat => .cons (dp_lay (hat 0 v L rfl rfl)) (dp_lays vs Ls (by simpa using h) fun i u M a b => hat (i + 1) u M a b)
theorem dp_nest {K : PySem.W.Frag} {G : Hp} {p : Addr} {Ls : List Lay} (h : NestAt G p Ls) : Dp K G (.ref p) (.list (Ls.map Lay.dat)) := by
  obtain ⟨vs, h1, h2, h3⟩ := h
  exact .lst (sql h1) (dp_lays vs Ls h2 h3)
theorem cut_one (xs : List V) : cutV xs none (some 1) = xs.take 1 := by
  unfold cutV
  rw [HT.sIx_none, show HT.sIx xs.length xs.length (some 1) = min 1 xs.length from HT.sIx_nat xs.length _ 1]
  cases xs with
  | nil => rfl
  | cons x r =>
    rw [show min 1 (x :: r).length = 1 by rw [List.length_cons]; omega]
    rfl
theorem flatL_con {w n : Int} (h0 : 0 ≤ w) (h1 : 1 ≤ n) : flatL [.con w n] = List.replicate (n - 1).toNat w := by
  rw [flatL_fold fun L hL => by rw [List.mem_singleton.mp hL, Lay.ok_con, decide_eq_true h0, decide_eq_true h1]; rfl]
  show nestL [] (List.replicate (n - 1).toNat w) = _
  rw [nil_nestL]
theorem NestV.low {H0 G : Hp} {a d p : Addr} {us : List V} {Ls : List Lay} (hv : NestV H0 (hid a d G) p us Ls) : NestAt G p Ls := by
  obtain ⟨z1, z2, z3, _⟩ := hv
  refine ⟨us, (hid_get z1).1, z2, fun i v L x y => ?_⟩
  have := z3 i v L x y
  cases L with
  | pol ns => obtain ⟨p, e, z⟩ := this; exact ⟨p, e, (hid_get z).1⟩
  | con w n => obtain ⟨p, e, z⟩ := this; exact ⟨p, e, (hid_get z).1⟩
theorem nice_cnt {L : Lay} (h : L.nice) : L.cnt < 2 ^ 100 := by
  obtain ⟨h0, h1⟩ := h
  cases L with
  | pol ns =>
    obtain ⟨h1, _⟩ := h1
    show (ns.length : Int) + 1 < 2 ^ 100
    omega
  | con w n =>
    obtain ⟨_, h1⟩ := h1
    show n < 2 ^ 100
    omega
theorem cut_n (xs : List V) (n : Nat) : cutV xs none (some (n : Int)) = xs.take n := by
  unfold cutV
  rw [HT.sIx_none, show HT.sIx xs.length xs.length (some (n : Int)) = min n xs.length from HT.sIx_nat xs.length _ n]
  show (xs.drop 0).take (min n xs.length - 0) = _
  rw [List.drop_zero, Nat.sub_zero]
  by_cases h : n ≤ xs.length
  · rw [Nat.min_eq_left h]
  · rw [Nat.min_eq_right (by omega), List.take_length, List.take_of_length_le (by omega)]
theorem cut_to (xs : List V) (n : Nat) : cutV xs (some (n : Int)) none = xs.drop n := by
  unfold cutV
  rw [HT.sIx_none, show HT.sIx xs.length 0 (some (n : Int)) = min n xs.length from HT.sIx_nat xs.length _ n]
  by_cases h : n ≤ xs.length
  · rw [Nat.min_eq_left h]
    exact List.take_of_length_le (by rw [List.length_drop]; omega)
  · rw [Nat.min_eq_right (by omega), List.drop_eq_nil_of_le (Nat.le_refl _), List.drop_eq_nil_of_le (by omega)]
    exact List.take_nil
theorem ne_same {d : PyData} {A B : Prop} (h : d.canLay0 = true) (b : B) : if (!PyData.eqv d d) = true then A else B := by
  rw [eqv_refl' d h]
  exact iteF b
theorem ne_val {x y : V} {A B : Prop} (h : x = y) (b : B) : if (!decide (x = y)) = true then A else B := by
  rw [h, decide_eq_true rfl]
  exact iteF b
end Rn

set_option Elab.async false
set_option linter.all false
set_option maxRecDepth 100000
set_option maxHeartbeats 4000000
namespace Rn
open PySem PySem.Spec PyProof.Rows L2
/-! ## repr of data; a law entered where no list is being shown -/
section
variable {X : Cx} {K : PySem.W.Frag}
def rRepr (K : PySem.W.Frag) : List V → Hp → VK → Prop := fun xs H Q => ∃ (p : Addr) (d : PyData), xs = [.ref p] ∧ Dp K H (.ref p) d ∧ d.showable = true ∧ d.hasDict = false ∧ d.depth ≤ 50 ∧ d.shown.length ≤ sizeLine ∧ Q (.str d.shown) H
theorem call_repr {k : Nat} (hg : X.A.guards = some []) (hr : Room k X.A) : CallR X (.builtin "repr") (rRepr X.K) := by
  intro pins s σ H xs us Q I r h
  obtain ⟨p, d, rfl, hd, hs, hh, hdep, hz, q⟩ := h
  cases r with
  | cons r1 r2 =>
    cases r2
    cases r1
    obtain ⟨as, rd⟩ := Dp.reads I d _ _ hd rfl
    have hu := hr.units
    exact repr_of_reads' rd hs (PyData.noDict_hsm hh) hg (by omega) (fun _ _ e => e) (fun h' u tk hk => ⟨.str d.shown, H, I.kept (t' := tk) hk, ⟨u, rfl⟩, q⟩) hz
end
section
variable {P : Program} {w : World} {K : PySem.W.Frag} {mg : Str → Option Value} {base : Heap}
/-- a promise that is kept wherever nothing is being shown -/
def FnG (P : Program) (w : World) (K : PySem.W.Frag) (mg : Str → Option Value) (base : Heap) (k : Nat) (f : Addr) (fd : FuncData) (ps : List Str) (sp : Sp) : Prop :=
  ∀ (A : Around) (outer : List Env) (s : Shared) (H : Hp) (args : Args) (us : List Value) (vs : List V) (Q : VK) (E : XK), A.guards = some [] → Room k A → Env0 P w K mg base A outer s H →
    BindsTo s fd args (ps.zip us) → Vals vs us → vs.length = ps.length → sp vs H Q E → codeAny (model P w) A (.call (.ref f) args) (CR CX0 outer P w H s Q E) s
theorem okG {x qual : Str} {st : Stmt} {f : Addr} {fd : FuncData} {N ps : List Str} {k : Nat} {sp : Sp} (F : Fun K x qual st f fd) (S : FnScope N ps (defScope st))
    (hbody : ∀ (cdv : Value) (A : Around) (outer : List Env) (s : Shared) (H : Hp) (vs : List V) (Q : VK) (E : XK), A.guards = some [] → Room k (A.deeper (envOfC qual (defScope st) s.heap.objs.size f cdv)) → sp vs H Q E →
      ∃ t, PSs (cxOf CX0 P w K mg base N qual (defScope st) f cdv A outer s H E).nox (defBody st) t ∧ t { nx := fun _ H' => Q .non H', rt := Q } (start N vs) H) :
    FnG P w K mg base (k + 1) f fd ps sp := by
  obtain ⟨oc, od, kV, doc, pm, an, cdv, ct, osl, efd, look, code⟩ := F.ex
  subst efd
  intro A outer s H args us vs Q E guard room e0 bind rel hlen want
  have same : ∀ b o, base.get? b = some o → s.heap.get? b = some o := fun b o z => (e0.bs b o z).1
  refine Att.call_fn (e0.mod.kin.keeps same) (e0.mod.nolimit.keeps same) look code room.depth bind ?_ (fun s1 x1 => ?_) S.co S.gen S.kind
  · rw [List.all_eq_true]
    rintro ⟨n, v⟩ hm
    rcases S.par n (List.of_mem_zip hm).1 with z | z
    · simp [z]
    · simp [z]
  obtain ⟨t, ht, hq⟩ := hbody cdv A outer s H vs Q E guard (room.deeper _) want
  have start0 : Inv (cxOf CX0 P w K mg base N qual (defScope st) f cdv A outer s H E) [] (start N vs) H s1 := inv_start S room.hd e0 hlen rel x1
  refine wpAny_mono (ht.nox.run [] s1 _ H _ start0 hq) (fun flow s2 done => ?_) (fun _ _ z => z)
  cases flow with
  | brk => exact (by obtain ⟨_, _, _, z⟩ := done; exact False.elim z)
  | cont => exact (by obtain ⟨_, _, _, z⟩ := done; exact False.elim z)
  | next =>
    obtain ⟨_, H2, J, z⟩ := done
    exact ⟨.non, H2, J.os, J.bare, J.base, J.hok, rfl, z⟩
  | ret u =>
    obtain ⟨v, _, H2, J, rv, z⟩ := done
    exact ⟨v, H2, J.os, J.bare, J.base, J.hok, rv, z⟩
/-- the heap's view at a law's entry: the script is known to the object, unless it is one of the text's own -/
def seen (K : PySem.W.Frag) (a : Addr) (vs : List Value) (ns : List Int) : Hp := fun b =>
  if b = a ∧ K.lookup a = none then some (.frz { cls := .type "list", data := .seq vs.toArray } (.lst (ns.map V.int))) else none
theorem seen_some {a b : Addr} {vs : List Value} {ns : List Int} {o : HO} (h : seen K a vs ns b = some o) : b = a ∧ K.lookup a = none ∧ o = .frz { cls := .type "list", data := .seq vs.toArray } (.lst (ns.map V.int)) := by
  unfold seen at h
  by_cases z : b = a ∧ K.lookup a = none
  · rw [if_pos z] at h
    exact ⟨z.1, z.2, (Option.some.inj h).symm⟩
  · rw [if_neg z] at h
    cases h
theorem law_at {mb : Str → Option Value} {fa a : Addr} {s1 : Shared} {vs : List Value} {ns : List Int} (hK : K.In s1.heap) (hmg : s1.heap.Ns mainGlobals mg) (hmb : s1.heap.Ns builtinsNs mb)
    (hbo : ∀ x : Str, x ≠ "__name__" → mb x = bootBuiltins x) (lim : s1.heap.NoLimit) (gens : s1.gens = #[]) (here : s1.heap.get? a = some { cls := .type "list", data := .seq vs.toArray }) (nums : IntsAre vs ns) (few : ns.length ≤ 63)
    (run : ∀ (base : Heap) (H : Hp), K.In base → base.Ns mainGlobals mg → Env0 P w K mg base callerA [] s1 H → SqL K H a (ns.map V.int) → codeAny (model P w) callerA (.call (.ref fa) ⟨[.ref a], []⟩) (CR CX0 [] P w H s1 (fun v _ => v = .bl true) E0) s1) :
    codeAny (model P w) callerA (.call (.ref fa) ⟨[.ref a], []⟩) (fun r s' => r = .ok (.ret (.bool true)) ∧ OldK s1.heap s'.heap ∧ s'.os = s1.os ∧ AllBare s'.gens) s1 := by
  have rel := vals_ints nums
  have cnt := nums.length
  have notDict : ∀ {b : Addr} {m : Str → Option Value}, s1.heap.Ns b m → seen K a vs ns b = none := fun {b m} z => by
    obtain ⟨o, es, ep, e, d, _⟩ := z
    cases q : seen K a vs ns b with
    | none => rfl
    | some u =>
      obtain ⟨eb, _, _⟩ := seen_some q
      rw [eb, here] at e
      cases e
      cases d
  have shift : ∀ {b : Addr} {m : Str → Option Value}, s1.heap.Ns b m → (hidT s1.heap (seen K a vs ns)).Ns b m := fun z => by
    have n := notDict z
    obtain ⟨o, es, ep, e, r⟩ := z
    exact ⟨o, es, ep, hidT_get e n, r⟩
  have kin : K.In (hidT s1.heap (seen K a vs ns)) := fun b o e => hidT_get (hK b o e) (by
    cases q : seen K a vs ns b with
    | none => rfl
    | some u =>
      obtain ⟨eb, en, _⟩ := seen_some q
      rw [eb, en] at e
      cases e)
  have hok : HOk P w (seen K a vs ns) s1.heap := fun b o e => by
    obtain ⟨rfl, _, rfl⟩ := seen_some e
    exact ⟨here, size_le (by rw [List.length_map]; omega), vs, _, rel, here⟩
  have env : Env0 P w K mg (hidT s1.heap (seen K a vs ns)) callerA [] s1 (seen K a vs ns) :=
    ⟨rfl, ⟨kin, shift hmg, ⟨mb, shift hmb, hbo⟩, by obtain ⟨mc, z1, z2⟩ := lim; exact ⟨mc, shift z1, z2⟩⟩, fun b o e => of_hidT e, Nat.le_of_eq (hidT_size _ _), trivial, (fun b z => nomatch z), hok, .of_eq gens⟩
  have script : SqL K (seen K a vs ns) a (ns.map V.int) := by
    cases q : K.lookup a with
    | none => exact .inl (.inr ⟨_, if_pos ⟨rfl, q⟩⟩)
    | some o =>
      have e := hK a o q
      rw [here] at e
      cases e
      exact .inr ⟨_, vs.toArray, _, q, rfl, rfl, rfl, by rw [List.size_toArray, cnt]; exact size_le (by omega), by simpa using rel⟩
  refine codeAny_mono (run _ _ kin (shift hmg) env script) fun r s' z => ?_
  cases r with
  | error e => exact False.elim z
  | ok flow =>
    cases flow with
    | brk => exact False.elim z
    | cont => exact False.elim z
    | next => exact False.elim z
    | ret u =>
      obtain ⟨v, H', os, bare, un, hok', rv, (rfl : v = .bl true)⟩ := z
      cases (show u = Value.bool true from rv)
      refine ⟨rfl, OldK.of_keep fun b o e => ?_, os, bare⟩
      cases q : seen K a vs ns b with
      | none => exact un.keep b o e q (fun z => nomatch z) (fun z => nomatch z)
      | some y =>
        obtain ⟨_, _, rfl⟩ := seen_some q
        obtain ⟨e2, _⟩ := hok' b _ (un.frzs b _ _ q)
        obtain ⟨e1, _⟩ := hok b _ q
        rw [e] at e1
        cases e1
        exact e2
end
/-- the walk's end for a law that shows lists -/
theorem walk_G {l : PySem.W.OpenLaw} {k : Nat} {q : Program} {loose : List Str} {XP : (Str → Option Value) → Heap → Prop} {YP : World → Heap → Prop} {d : DefRec} {K : Params → PySem.W.Frag} {sp : PySem.W.Frag → Sp}
    (hn : l.most = some 63) (hdf : d.params.defaults = []) (hr : Room k callerA) (hY : ∀ (w : World) (h : Heap), YP w h → (K w.params).In h)
    (F : ∀ (w : World) (mg : Str → Option Value) (fa : Addr) (h : Heap), (K w.params).In h → h.Ns mainGlobals mg → mg d.name = some (.ref fa) →
      ∃ fd : FuncData, (∀ (s : Shared) (u : Value), BindsTo s fd ⟨[u], []⟩ [("script", u)]) ∧ ∀ base : Heap, (K w.params).In base → base.Ns mainGlobals mg → FnG l.prog w (K w.params) mg base k fa fd ["script"] (sp (K w.params)))
    (hsp : ∀ (K : PySem.W.Frag) (H : Hp) (a : Addr) (ns : List Int), ns.length ≤ 63 → SqL K H a (ns.map V.int) → sp K [.ref a] H (fun v _ => v = .bl true) E0) :
    PySem.W.WalkO q loose XP YP l.row.toRowW d [] (fun f vs => PySem.call f vs) := by
  refine Att.attach_call hn hdf fun w s0 s1 mg mb fa o pm cd doc a vs ns G Y _ _ _ hmg here nums few gens => ?_
  obtain ⟨fd, bind, run⟩ := F w mg fa _ (hY w _ Y) G.T.g hmg
  exact law_at (hY w _ Y) G.T.g G.T.b G.T.builtins G.T.nolimit gens here nums few fun base H kin ns1 env script =>
    run base kin ns1 callerA [] s1 H _ [.ref a] [.ref a] _ _ rfl hr env (bind s1 (.ref a)) (.cons rfl .nil) rfl (hsp _ H a ns few script)
end Rn
namespace Rn
open PySem PySem.Spec PyProof.Rows L2
/-! ## calls by keywords alone -/
def tCallKw (sp : Sp) (gV : List V → List V → List V) (E : XK) (tk : TA) : TE := fun σ H Q => tk σ H fun zs H1 => sp (gV [] zs) H1 Q E
section
variable {X : Cx} {CX : CXT} {k : Nat} {f : Addr} {fd : FuncData} {ps ks : List Str} {sp : Sp} {E : XK} {x : Str} {p pos : Pos} {kws : List Keyword} {tk : TA} {g : List Value → List Value → List Value} {gV : List V → List V → List V}
theorem pe_callKw (F : FnOk X.prog X.w X.K X.mg X.base CX k f fd ps sp) (room : Room k X.A) (hg : Gl X x) (here : X.mg x = some (.ref f)) (keep : PySem.W.keepIn X.K (.ref f) = true) (bind : KBinds X.K fd ps ks g gV) (out : Passes CX X E)
    (hkw : PK X kws tk) (named : (backToKw pos (keywordEach kws X.env)).all (·.1.isSome) = true := by rfl) (order : (backToKw pos (keywordEach kws X.env)).filterMap (·.1) = ks := by rfl)
    (nodebug : (x == ("__debug__" : Str)) = false := by decide) (plain : ((backTo pos (starEach [] X.env)).any (·.1) || (backToKw pos (keywordEach kws X.env)).any (·.1.isNone)) = false := by rfl) :
    PE X (.Call (.Name x p) [] kws pos) (tCallKw sp gV E tk) := by
  constructor
  intro pins s σ H Q I h
  refine wpAny_Call_Name_kw (ld_glob I hg here ?_ nodebug)
  refine PySem.W.callWith_KW0 (h₀ := X.base) I.ok.mod.kin keep named (thn (hkw.run pos pins s σ H _ I h) fun ws s2 z => ?_) plain
  obtain ⟨zs, H2, I2, rz, q2⟩ := z
  rw [order]
  exact ⟨I2.kIn, run_fnk (us := []) (vs := []) F room bind out I2 .nil rz q2⟩
end
def kw1 {α : Type} : List α → List α → List α
  | [], [a] => [a]
  | _, _ => []
def kw2r {α : Type} : List α → List α → List α
  | [], [a, b] => [b, a]
  | _, _ => []
section
variable {K : PySem.W.Frag} {fd : FuncData} {p q : Str}
theorem kb1 (h : ∀ (s : Shared) (a : Value), BindsTo s fd ⟨[], [(p, a)]⟩ [(p, a)]) : KBinds K fd [p] [p] kw1 kw1 := by
  refine ⟨fun s us ws _ hl => ?_, fun {vs us zs ws} r1 r2 => ?_⟩
  · match us, ws, hl with
    | [], [a], _ => exact h s a
  · cases r1 with
    | cons _ _ => exact .nil
    | nil =>
      cases r2 with
      | nil => exact .nil
      | cons a r =>
        cases r with
        | nil => exact .cons a .nil
        | cons _ _ => exact .nil
theorem kb2r (h : ∀ (s : Shared) (a b : Value), BindsTo s fd ⟨[], [(q, a), (p, b)]⟩ [(p, b), (q, a)]) : KBinds K fd [p, q] [q, p] kw2r kw2r := by
  refine ⟨fun s us ws _ hl => ?_, fun {vs us zs ws} r1 r2 => ?_⟩
  · match us, ws, hl with
    | [], [a, b], _ => exact h s a b
  · cases r1 with
    | cons _ _ => exact .nil
    | nil =>
      cases r2 with
      | nil => exact .nil
      | cons a r =>
        cases r with
        | nil => exact .nil
        | cons b r =>
          cases r with
          | nil => exact .cons b (.cons a .nil)
          | cons _ _ => exact .nil
end
/-! ## data that can be shown -/
structure Shw (d : PyData) (W D : Nat) : Prop where
  show1 : d.showable = true
  plain : d.hasDict = false
  short : d.leavesShort 25 = true
  heavy : d.weight ≤ W
  deep : d.depth ≤ D
theorem Shw.fits {d : PyData} {W D : Nat} (s : Shw d W D) (h : W ≤ 500000) : d.shown.length ≤ sizeLine := by
  have h1 := PyData.shown_le 25 (by decide) d s.short
  have h2 := s.heavy
  have h3 : (25 + 2) * d.weight ≤ 27 * 500000 := Nat.mul_le_mul (by decide) (by omega)
  rw [sizeLine_eq]
  omega
theorem log_lt {i : Int} (h : i.natAbs < 10 ^ 24) : i.natAbs.log2 < 80 := PySem.Flt.log2_lt_of (k := 80) (by decide) (Nat.lt_trans h (by decide))
theorem Shw.int {i : Int} (h : i.natAbs < 10 ^ 24) : Shw (.int i) 80 1 := by
  have h1 := log_lt h
  refine ⟨?_, rfl, ?_, ?_, ?_⟩
  · simp only [PyData.showable, decide_eq_true_eq]
    omega
  · simp only [PyData.leavesShort, decide_eq_true_eq]
    have e := int_text_length_le10 (k := 24) (by decide) h
    show (Str.ofString (toString i)).length ≤ 25
    rw [PySem.ofString_length]
    exact e
  · simp only [PyData.weight]
    split
    · omega
    · omega
  · simp only [PyData.depth]
    omega
theorem Shw.all {W D : Nat} : ∀ ds : List PyData, (∀ d ∈ ds, Shw d W D) → PyData.showableAll ds = true ∧ PyData.hasDictAll ds = false ∧ PyData.leavesShortAll 25 ds = true ∧ PyData.weightAll ds ≤ ds.length * (W + 1) ∧ PyData.depthAll ds ≤ D
  | [], _ => ⟨rfl, rfl, rfl, Nat.zero_le _, Nat.zero_le _⟩
  | d :: ds, h => by
    obtain ⟨a1, a2, a3, a4, a5⟩ := Shw.all ds fun e he => h e (List.mem_cons_of_mem _ he)
    obtain ⟨b1, b2, b3, b4, b5⟩ := h d List.mem_cons_self
    refine ⟨?_, ?_, ?_, ?_, ?_⟩
    · simp only [PyData.showableAll, b1, a1, Bool.and_self]
    · simp only [PyData.hasDictAll, b2, a2, Bool.or_self]
    · simp only [PyData.leavesShortAll, b3, a3, Bool.and_self]
    · simp only [PyData.weightAll, List.length_cons, Nat.succ_mul]
      omega
    · simp only [PyData.depthAll]
      omega
theorem Shw.list {W D : Nat} {ds : List PyData} (h : ∀ d ∈ ds, Shw d W D) : Shw (.list ds) (ds.length * (W + 1)) (D + 1) := by
  obtain ⟨a1, a2, a3, a4, a5⟩ := Shw.all ds h
  exact ⟨by simpa only [PyData.showable] using a1, by simpa only [PyData.hasDict] using a2, by simpa only [PyData.leavesShort] using a3, by simpa only [PyData.weight] using a4, by simp only [PyData.depth]; omega⟩
theorem Shw.tuple {W D : Nat} {ds : List PyData} (h : ∀ d ∈ ds, Shw d W D) : Shw (.tuple ds) (ds.length * (W + 1)) (D + 1) := by
  obtain ⟨a1, a2, a3, a4, a5⟩ := Shw.all ds h
  exact ⟨by simpa only [PyData.showable] using a1, by simpa only [PyData.hasDict] using a2, by simpa only [PyData.leavesShort] using a3, by simpa only [PyData.weight] using a4, by simp only [PyData.depth]; omega⟩
theorem Shw.mono {d : PyData} {W W' D D' : Nat} (s : Shw d W D) (h : W ≤ W') (h' : D ≤ D') : Shw d W' D' := ⟨s.1, s.2, s.3, Nat.le_trans s.4 h, Nat.le_trans s.5 h'⟩
theorem Shw.nums {ns : List Int} (h : ∀ x ∈ ns, x.natAbs < 10 ^ 24) : Shw (dInts ns) (ns.length * 81) 2 := by
  have := Shw.list (ds := ns.map .int) (W := 80) (D := 1) fun d hd => by
    obtain ⟨x, hx, rfl⟩ := List.mem_map.mp hd
    exact Shw.int (h x hx)
  rw [List.length_map] at this
  exact this
theorem Shw.two {d e : PyData} {W D : Nat} (h1 : Shw d W D) (h2 : Shw e W D) : Shw (.list [d, e]) (2 * (W + 1)) (D + 1) :=
  Shw.list (ds := [d, e]) fun x hx => by
    simp only [List.mem_cons, List.not_mem_nil, or_false] at hx
    rcases hx with rfl | rfl
    · exact h1
    · exact h2
theorem ne_str {x y : Str} {A B : Prop} (h : x = y) (b : B) : if (!decide (V.str x = V.str y)) = true then A else B := by
  rw [h, decide_eq_true rfl]
  exact iteF b
theorem Shw.lay {L : Lay} (h : L.nice) : Shw L.dat 4860 2 := by
  obtain ⟨h0, h1⟩ := h
  cases L with
  | pol ns =>
    obtain ⟨h1, h2⟩ := h1
    exact (Shw.nums fun x hx => by have := h2 x hx; omega).mono (by omega) (Nat.le_refl _)
  | con w n =>
    obtain ⟨h1, h2⟩ := h1
    have h3 := LayAt.con_pos h0
    have h3 : 1 ≤ n := h3
    rw [Lay.ok_con, Bool.and_eq_true] at h0
    have h4 := of_decide_eq_true h0.1
    refine (Shw.tuple (ds := [.int w, .int n]) (W := 80) (D := 1) fun d hd => ?_).mono (by show 2 * 81 ≤ 4860; decide) (Nat.le_refl _)
    simp only [List.mem_cons, List.not_mem_nil, or_false] at hd
    rcases hd with rfl | rfl
    · exact Shw.int (by omega)
    · exact Shw.int (by omega)
theorem Shw.nest {Ls : List Lay} {m : Nat} (h : ∀ L ∈ Ls, L.nice) (hl : Ls.length ≤ m) : Shw (.list (Ls.map Lay.dat)) (m * 4861) 3 := by
  refine (Shw.list (ds := Ls.map Lay.dat) (W := 4860) (D := 2) fun d hd => ?_).mono (by rw [List.length_map]; exact Nat.mul_le_mul_right _ hl) (Nat.le_refl _)
  obtain ⟨L, hL, rfl⟩ := List.mem_map.mp hd
  exact Shw.lay (h L hL)
end Rn

set_option Elab.async false
set_option linter.all false
set_option maxRecDepth 100000
set_option maxHeartbeats 4000000
namespace Rn
open PySem PySem.Spec PyProof.Rows L2
/-! ## ** of great ints -/
def CPowW (i j : Int) : Prop := 0 ≤ j ∧ (Builtin.Int.intBits i : Int) * j ≤ 2 ^ 27
theorem op_powW {X : Cx} : OpR X (binaryOp .Pow) (rI CPowW fun i j => .int (i ^ j.toNat)) := opI fun _ _ _ _ _ _ _ hc q => pow_int hc.1 hc.2 q
theorem pow_ok {i : Int} {k : Nat} (h : i.natAbs < 2 ^ k) (h0 : 0 < k) (hk : k ≤ 1000) : CPowW i 3 := by
  refine ⟨by decide, ?_⟩
  have h1 := PySem.Flt.log2_lt_of h0 h
  have h2 : Builtin.Int.intBits i ≤ i.natAbs.log2 + 1 := by
    unfold Builtin.Int.intBits
    split <;> omega
  omega
/-! ## the other source of draws: three ints in one list -/
def Rng (H : Hp) (a : Addr) (n : Int) : Prop := ∃ dg seed cnt : Int, H a = some (.lst [.int dg, .int seed, .int cnt]) ∧ 0 ≤ seed ∧ seed < 4000000000000000000 ∧ 0 ≤ cnt ∧ cnt ≤ n
theorem Rng.same {H H' : Hp} {a : Addr} {n : Int} (s : Rng H a n) (e : Same H H') : Rng H' a n := by
  obtain ⟨dg, seed, cnt, h, r⟩ := s
  exact ⟨dg, seed, cnt, e _ _ h, r⟩
theorem Rng.keep {H : Hp} {a p : Addr} {o : HO} {n : Int} (s : Rng H a n) (ha : p ≠ a) : Rng (upd H p o) a n := by
  obtain ⟨dg, seed, cnt, h, r⟩ := s
  exact ⟨dg, seed, cnt, by rw [upd_ne ha.symm]; exact h, r⟩
theorem Rng.mono {H : Hp} {a : Addr} {n m : Int} (s : Rng H a n) (h : n ≤ m) : Rng H a m := by
  obtain ⟨dg, seed, cnt, h1, h2, h3, h4, h5⟩ := s
  exact ⟨dg, seed, cnt, h1, h2, h3, h4, Int.le_trans h5 h⟩
theorem Rng.new1 {H : Hp} {a p : Addr} {n : Int} (s : Rng H a n) (h : H p = none) : p ≠ a := by
  obtain ⟨dg, seed, cnt, h1, _⟩ := s
  exact (ne_of_none h1 h).symm
structure Rdv (a : Addr) (c : Int) (H H' : Hp) : Prop where
  same : Same (hid a a H) (hid a a H')
  src : ∀ n, Rng H a n → Rng H' a (n + c)
theorem Rdv.refl {a : Addr} {H : Hp} : Rdv a 0 H H := ⟨Same.refl _, fun n s => s.mono (by omega)⟩
theorem Rdv.trans {a : Addr} {c c' e : Int} {H H1 H2 : Hp} (x : Rdv a c H H1) (y : Rdv a c' H1 H2) (h : c + c' ≤ e) : Rdv a e H H2 :=
  ⟨x.same.trans y.same, fun n s => (y.src _ (x.src _ s)).mono (by omega)⟩
theorem Rdv.mono {a : Addr} {c e : Int} {H H1 : Hp} (x : Rdv a c H H1) (h : c ≤ e) : Rdv a e H H1 := ⟨x.same, fun n s => (x.src _ s).mono (by omega)⟩
theorem Rdv.of {a : Addr} {H H' : Hp} (e : Same H H') : Rdv a 0 H H' := ⟨hid_same e, fun n s => (s.same e).mono (by omega)⟩
theorem Rdv.mut {a : Addr} {c : Int} {H H' : Hp} {p : Addr} {o : HO} {n : Int} (x : Rdv a c H H') (s : Rng H a n) (h : H p = none) : Rdv a c H (upd H' p o) := by
  have h1 := s.new1 h
  refine ⟨?_, fun m t => (x.src m t).keep h1⟩
  rw [hid_oth h1 h1]
  exact same_keep x.same (hid_none h)
theorem Rdv.free {a p : Addr} {c n : Int} {H H' : Hp} (x : Rdv a c H H') (s : Rng H a n) (h : H' p = none) : H p = none := by
  have h1 := (x.src n s).new1 h
  cases q : H p with
  | none => rfl
  | some o =>
    have e := (hid_get (x.same p o (hid_at q h1 h1))).1
    rw [h] at e
    cases e
theorem Rdv.made {a : Addr} {c dg seed cnt dg' cnt' : Int} {H H' : Hp} (e : Same (hid a a H) (hid a a H')) (h : H a = some (.lst [.int dg, .int seed, .int cnt]))
    (h' : H' a = some (.lst [.int dg', .int seed, .int cnt'])) (h0 : cnt ≤ cnt') (h1 : cnt' ≤ cnt + c) : Rdv a c H H' := by
  refine ⟨e, fun n s => ?_⟩
  obtain ⟨d2, s2, c2, a1, a3, a4, a5, a6⟩ := s
  rw [h] at a1
  cases a1
  exact ⟨dg', seed, cnt', h', a3, a4, by omega, by omega⟩
/-! ## an expression cut off by a word of its own -/
def tCutE (t : TE) : TE := fun σ H Q => ∃ R : V → Hp → Prop, t σ H R ∧ ∀ v H', R v H' → Q v H'
theorem pe_cutE {X : Cx} {e : Expr} {t : TE} (h : PE X e t) : PE X e (tCutE t) := ⟨fun pins s σ H Q I hw =>
  let ⟨R, h1, h2⟩ := hw
  thn (h.run pins s σ H R I h1) fun v s1 ⟨x, H1, I1, r1, q1⟩ => ⟨x, H1, I1, r1, h2 _ _ q1⟩⟩
end Rn

set_option Elab.async false
set_option linter.all false
set_option maxRecDepth 100000
set_option maxHeartbeats 4000000
namespace Rn
open PySem PySem.Spec PyProof.Rows L2
/-! ## slices between numbers, and by steps -/
theorem cut_mid (xs : List V) (a b : Nat) : cutV xs (some (a : Int)) (some (b : Int)) = (xs.drop a).take (b - a) := by
  unfold cutV
  rw [show HT.sIx xs.length 0 (some (a : Int)) = min a xs.length from HT.sIx_nat xs.length _ a, show HT.sIx xs.length xs.length (some (b : Int)) = min b xs.length from HT.sIx_nat xs.length _ b]
  by_cases ha : a ≤ xs.length
  · rw [Nat.min_eq_left ha]
    by_cases hb : b ≤ xs.length
    · rw [Nat.min_eq_left hb]
    · rw [Nat.min_eq_right (by omega), List.take_of_length_le (by rw [List.length_drop]; omega), List.take_of_length_le (by rw [List.length_drop]; omega)]
  · rw [show min a xs.length = xs.length by omega, List.drop_eq_nil_of_le (Nat.le_refl _), List.drop_eq_nil_of_le (show xs.length ≤ a by omega), List.take_nil, List.take_nil]
/-- xs[lo], xs[lo + c], .. -/
def pks {α : Type} (xs : List α) (lo c : Nat) : List α := ((List.range ((xs.length - lo + c - 1) / c)).map fun k => lo + c * k).filterMap fun i => xs[i]?
theorem pks_map {α β : Type} (f : α → β) (xs : List α) (lo c : Nat) : pks (xs.map f) lo c = (pks xs lo c).map f := by
  unfold pks
  rw [List.length_map, List.map_filterMap]
  congr 1
  funext i
  rw [List.getElem?_map]
theorem vals_at {xs : List V} {us : List Value} (h : Vals xs us) : ∀ is : List Nat, Vals (is.filterMap fun i => xs[i]?) (is.filterMap fun i => us[i]?)
  | [] => .nil
  | i :: is => by
    have ih := vals_at h is
    by_cases hi : i < xs.length
    · obtain ⟨u, hu, r⟩ := Vals.get h (List.getElem?_eq_getElem hi)
      rw [List.filterMap_cons_some (List.getElem?_eq_getElem hi), List.filterMap_cons_some hu]
      exact .cons r ih
    · rw [List.filterMap_cons_none (List.getElem?_eq_none (by omega)), List.filterMap_cons_none (List.getElem?_eq_none (by rw [← h.length]; omega))]
      exact ih
theorem pick_k (its : Array Value) (lo c : Nat) (hl : lo ≤ its.size) (hc : 1 ≤ c) : (slicePick its (some (lo : Int)) none (some (c : Int))).toList = pks its.toList lo c := by
  have hb : sliceBounds (some (lo : Int)) none (some (c : Int)) its.size = ((lo : Int), (its.size : Int), (c : Int)) := by
    unfold sliceBounds
    simp only [Option.getD_some]
    rw [if_pos (show (c : Int) > 0 by omega), if_neg (show ¬ (lo : Int) < 0 by omega)]
    refine Prod.ext ?_ (Prod.ext ?_ rfl)
    · show max 0 (min (lo : Int) its.size) = (lo : Int)
      omega
    · show (if (c : Int) > 0 then (its.size : Int) else _) = _
      rw [if_pos (show (c : Int) > 0 by omega)]
  unfold slicePick pks
  rw [hb]
  have hr : sliceRange (lo : Int) (its.size : Int) (c : Int) = (List.range ((its.toList.length - lo + c - 1) / c)).map fun k => lo + c * k := by
    unfold sliceRange
    have hn : (if (c : Int) > 0 then (if (lo : Int) < (its.size : Int) then ((its.size : Int) - lo + c - 1) / c else 0) else (if (lo : Int) > (its.size : Int) then ((lo : Int) - its.size - c - 1) / (-c) else 0)).toNat = (its.toList.length - lo + c - 1) / c := by
      rw [if_pos (show (c : Int) > 0 by omega), Array.length_toList]
      split
      · rw [show (its.size : Int) - lo + c - 1 = ((its.size - lo + c - 1 : Nat) : Int) by omega]
        rfl
      · rw [show its.size - lo + c - 1 = c - 1 by omega, Nat.div_eq_of_lt (by omega)]
        rfl
    simp only []
    rw [hn]
    refine List.map_congr_left fun k _ => ?_
    have : (c : Int) * (k : Int) = ((c * k : Nat) : Int) := by rw [Int.natCast_mul]
    rw [this]
    omega
  show (((sliceRange (lo : Int) (its.size : Int) (c : Int)).filterMap (its[·]?)).toArray).toList = _
  rw [hr]
  simp only [Array.getElem?_toList]
def tSkip (K : PySem.W.Frag) (te tl ts : TE) : TE := fun σ H Q => te σ H fun v H1 => tPart tl σ H1 fun l H2 => tPart ts σ H2 fun o H3 => ∃ lo c : Nat, l = some (lo : Int) ∧ o = some (c : Int) ∧ 1 ≤ c ∧
  ∃ (a : Addr) (xs : List V), v = .ref a ∧ SqL K H3 a xs ∧ lo ≤ xs.length ∧ xs.length ≤ 100000 ∧ ∀ p, H3 p = none → Q (.ref p) (upd H3 p (.lst (pks xs lo c)))
theorem pks_len {α : Type} (xs : List α) (lo c : Nat) (hc : 1 ≤ c) : (pks xs lo c).length ≤ xs.length := by
  unfold pks
  refine Nat.le_trans (List.length_filterMap_le _ _) ?_
  rw [List.length_map, List.length_range]
  by_cases h : xs.length - lo = 0
  · rw [h, Nat.div_eq_of_lt (by omega)]
    exact Nat.zero_le _
  · have : (xs.length - lo + c - 1) / c ≤ xs.length - lo := by
      rw [Nat.div_le_iff_le_mul (by omega)]
      have h1 : (xs.length - lo - 1) * 1 ≤ (xs.length - lo - 1) * c := Nat.mul_le_mul_left _ hc
      have h2 : (xs.length - lo) * c = (xs.length - lo - 1) * c + c := by
        rw [← Nat.succ_mul]
        congr 1
        omega
      omega
    omega
theorem pe_skip {X : Cx} {e el es : Expr} {te tl ts : TE} {p3 pos : Pos} (he : PE X e te) (hl : PE X el tl) (hs : PE X es ts) : PE X (.Subscript e (.Slice (some el) none (some es) p3) pos) (tSkip X.K te tl ts) := by
  constructor
  intro pins s σ H Q I h
  refine Subscript_ (thn (he.run pins s σ H _ I h) fun v s1 z1 => ?_)
  obtain ⟨xv, H1, I1, r1, q1⟩ := z1
  refine wpAny_Slice (thn ((po_some hl).run pins s1 σ H1 _ I1 q1) fun vl s2 z2 => ?_)
  obtain ⟨l, G2, I2, pl, q2⟩ := z2
  refine thn (po_none.run pins s2 σ G2 (fun o G => o = none ∧ G = G2) I2 ⟨rfl, rfl⟩) fun vu s3 z3 => ?_
  obtain ⟨u, G3, I3, pu, rfl, rfl⟩ := z3
  refine thn ((po_some hs).run pins s3 σ G3 _ I3 q2) fun vs s4 z4 => ?_
  obtain ⟨o, G4, I4, pst, lo, c, rfl, rfl, hc, a, xs, rfl, hx, hlo, hsz, q⟩ := z4
  cases r1
  have I5 : Inv X pins σ G4 { s4 with heap := s4.heap.push { cls := .type "slice", data := .fields #[vl, vu, vs] } } := I4.kept (t' := s4.toks) fun b ob z => Heap.get?_push_of_some _ z
  obtain ⟨its, rel, plain, room⟩ := I5.list hx
  have many : its.length = xs.length := rel.length.symm
  show wpAny (model X.prog X.w) X.A (subscriptTail e (.Slice (some el) none (some es) p3) (.ref a) (.ref s4.heap.objs.size)) (EP X pins σ Q) X.xe { s4 with heap := s4.heap.push { cls := .type "slice", data := .fields #[vl, vu, vs] } }
  refine tail_any (ops := [.ref a, .ref s4.heap.objs.size]) plain.isList.typeIs (PySem.slot_list_getitem.lookup) ?_ (by with_unfolding_all rfl)
  refine wpAny_getItem_list_slice plain.isList (Heap.IsSliceOf.new _ vl vu vs) pl pu pst (by intro z; injection z with z; omega) ?_ (by rw [List.size_toArray, many]; exact size_le hsz)
  have hp := pick_k its.toArray lo c (by rw [List.size_toArray, many]; exact hlo) hc
  have hv : Vals (pks xs lo c) (slicePick its.toArray (some (lo : Int)) none (some (c : Int))).toList := by
    rw [hp]
    unfold pks
    rw [List.toList_toArray, ← many]
    exact vals_at rel _
  generalize slicePick its.toArray (some (lo : Int)) none (some (c : Int)) = arr at *
  refine ⟨.ref _, _, I5.laid (t' := s4.toks) (o := .lst (pks xs lo c)) (fun b ob z => Heap.get?_push_of_some _ z) (Nat.le_refl _) ?_, rfl, q _ (I5.hok.fresh (Nat.le_refl _))⟩
  exact ⟨Nat.le_trans (pks_len xs lo c hc) (size_le hsz), arr.toList, 0, hv, by rw [Heap.get?_push_size _ rfl]⟩
/-! ## range(lo, hi, c), c at least 1 -/
theorem RgC.up {i j c : Int} (hc : 1 ≤ c) (hc' : c < 1000000) (hi : 0 ≤ i) (hi' : i < 1000000) (hj : 0 ≤ j) (hj' : j < 1000000) : RgC i j c (if i < j then ((j - i - 1) / c + 1).toNat else 0) := by
  have hs : Builtin.Range.rangeSize i j c = ((if i < j then ((j - i - 1) / c + 1).toNat else 0 : Nat) : Int) := by
    unfold Builtin.Range.rangeSize
    rw [if_pos (show c > 0 by omega)]
    split
    · have := Int.ediv_nonneg (show 0 ≤ j - i - 1 by omega) (show 0 ≤ c by omega)
      omega
    · rfl
  have hb : Builtin.Range.rangeSize i j c ≤ 1000000 := by
    rw [hs]
    split
    · have h0 := Int.ediv_nonneg (show 0 ≤ j - i - 1 by omega) (show 0 ≤ c by omega)
      have h1 := Int.ediv_le_self c (show (0 : Int) ≤ j - i - 1 by omega)
      omega
    · decide
  have hb0 : 0 ≤ Builtin.Range.rangeSize i j c := by rw [hs]; omega
  refine ⟨by omega, by omega, ?_, hs⟩
  unfold Builtin.Range.small
  generalize Builtin.Range.rangeSize i j c = z at *
  simp only [Builtin.Range.rangeFitsLong, Bool.and_eq_true, Bool.or_eq_true, decide_eq_true_eq, beq_iff_eq, if_pos (show c > 0 by omega)]
  refine ⟨⟨⟨⟨?_, ?_⟩, ?_⟩, ?_⟩, .inr ?_⟩ <;> omega
theorem RgC.blocks {n q : Nat} (hn : 1 ≤ n) (hq : 1 ≤ q) (hb : n * q < 1000000) : RgC (n : Int) ((n * q : Nat) : Int) (n : Int) (q - 1) := by
  have h1 : n * 1 ≤ n * q := Nat.mul_le_mul_left _ hq
  have h := RgC.up (i := (n : Int)) (j := ((n * q : Nat) : Int)) (c := (n : Int)) (by omega) (by omega) (by omega) (by omega) (by omega) (by omega)
  have e : (if (n : Int) < ((n * q : Nat) : Int) then (((((n * q : Nat) : Int) - n - 1) / n + 1).toNat) else 0) = q - 1 := by
    by_cases h2 : q = 1
    · rw [h2, if_neg (by omega)]
    · have h3 : n * q = n * (q - 2) + n + n := by
        rw [show q = q - 2 + 1 + 1 by omega, Nat.mul_succ, Nat.mul_succ]
        rfl
      rw [if_pos (by omega)]
      have h4 : (((n * q : Nat) : Int) - n - 1) / n = ((q - 2 : Nat) : Int) := by
        rw [show ((n * q : Nat) : Int) - n - 1 = ((n : Int) - 1) + n * ((q - 2 : Nat) : Int) by rw [h3]; omega, Int.add_mul_ediv_left _ _ (by omega), Int.ediv_eq_zero_of_lt (by omega) (by omega), Int.zero_add]
      rw [h4]
      omega
  rw [e] at h
  exact h
/-! ## inner numbers -/
def blk (ws : List Int) (n c : Nat) : List Int := (ws.drop (c * n)).take (n - 1)
def repB (ws : List Int) (n : Nat) : Bool := (List.range ((ws.length + 1) / n)).all fun c => decide (blk ws n c = blk ws n 0)
def innB (ws : List Int) (n : Int) : Bool := decide (1 ≤ n) && decide (((ws.length : Int) + 1) % n = 0) && repB ws n.toNat
def innL (ws : List Int) : List Int := ((List.range (ws.length + 1)).map fun i => ((i : Nat) : Int) + 1).filter (innB ws)
theorem repB_of {ws : List Int} {n : Nat} (h : ∀ c, c < (ws.length + 1) / n → blk ws n c = blk ws n 0) : repB ws n = true := by
  unfold repB
  rw [List.all_eq_true]
  intro c hc
  exact decide_eq_true (h c (List.mem_range.mp hc))
theorem repB_not {ws : List Int} {n c : Nat} (hc : c < (ws.length + 1) / n) (h : blk ws n c ≠ blk ws n 0) : repB ws n = false := by
  unfold repB
  rw [List.all_eq_false]
  exact ⟨c, List.mem_range.mpr hc, by rw [decide_eq_false h]; decide⟩
theorem blk_map (ws : List Int) (n c : Nat) : ((ws.map V.int).drop (c * n)).take (n - 1) = (blk ws n c).map V.int := by
  unfold blk
  rw [List.map_take, List.map_drop]
/-- the definition by places -/
def Per (ws : List Int) (n : Nat) : Prop := 1 ≤ n ∧ n ∣ ws.length + 1 ∧ ∀ c r, r + 1 < n → c * n + r < ws.length → ws[c * n + r]? = ws[r]?
theorem blk_get {ws : List Int} {n c r : Nat} (h : r + 1 < n) : (blk ws n c)[r]? = ws[c * n + r]? := by
  unfold blk
  rw [List.getElem?_take_of_lt (by omega), List.getElem?_drop]
theorem per_iff {ws : List Int} {n : Nat} : innB ws (n : Int) = true ↔ Per ws n := by
  unfold innB Per
  rw [Bool.and_eq_true, Bool.and_eq_true, decide_eq_true_eq, decide_eq_true_eq, Int.toNat_natCast]
  have hd : ((ws.length : Int) + 1) % (n : Int) = 0 ↔ n ∣ ws.length + 1 := by
    rw [← Int.natCast_dvd_natCast, ← Int.dvd_iff_emod_eq_zero]
    rfl
  rw [hd]
  constructor
  · rintro ⟨⟨h1, h2⟩, h3⟩
    refine ⟨by omega, h2, fun c r hr hl => ?_⟩
    unfold repB at h3
    rw [List.all_eq_true] at h3
    have hc : c < (ws.length + 1) / n := by
      rw [Nat.lt_div_iff_mul_lt' h2]
      rw [Nat.mul_comm]
      omega
    have := of_decide_eq_true (h3 c (List.mem_range.mpr hc))
    rw [← blk_get hr, this, blk_get hr, Nat.zero_mul, Nat.zero_add]
  · rintro ⟨h1, h2, h3⟩
    refine ⟨⟨by omega, h2⟩, repB_of fun c hc => ?_⟩
    obtain ⟨q, hq⟩ := h2
    have hc' : c < q := by
      rw [hq, Nat.mul_div_cancel_left _ (by omega)] at hc
      exact hc
    have hb : c * n + n ≤ ws.length + 1 := by
      rw [hq, Nat.mul_comm n q, ← Nat.succ_mul]
      exact Nat.mul_le_mul_right _ hc'
    apply List.ext_getElem?
    intro r
    by_cases hr : r + 1 < n
    · rw [blk_get hr, blk_get hr, Nat.zero_mul, Nat.zero_add]
      exact h3 c r hr (by omega)
    · rw [List.getElem?_eq_none (by unfold blk; rw [List.length_take]; omega), List.getElem?_eq_none (by unfold blk; rw [List.length_take]; omega)]
/-! ## how many different ints -/
def fM (ns : List Int) : List Int := firstMet (fun i => ns.getD i 0) ns.length
theorem fM_len (ns : List Int) : (fM ns).length ≤ ns.length := firstMet_length_le _ _
theorem fM_same (f : Nat → Int) (w : Int) : ∀ n, (∀ i, i < n + 1 → f i = w) → firstMet f (n + 1) = [w]
  | 0, h => by
    rw [firstMet_succ, show f 0 = w from h 0 (by omega)]
    rfl
  | n + 1, h => by
    rw [firstMet_succ, fM_same f w n fun i hi => h i (by omega), h (n + 1) (by omega)]
    unfold step_dedup
    simp
theorem fM_one {ns : List Int} {w : Int} (h0 : ns ≠ []) (h : ∀ x ∈ ns, x = w) : fM ns = [w] := by
  unfold fM
  obtain ⟨n, hn⟩ : ∃ n, ns.length = n + 1 := ⟨ns.length - 1, by have := List.length_pos_iff.mpr h0; omega⟩
  rw [hn]
  refine fM_same _ w n fun i hi => ?_
  have hi' : i < ns.length := by omega
  rw [List.getD_eq_getElem?_getD, List.getElem?_eq_getElem hi']
  exact h _ (List.getElem_mem hi')
theorem fM_two {ns : List Int} {x y : Int} (hx : x ∈ ns) (hy : y ∈ ns) (h : x ≠ y) : 1 < (fM ns).length := by
  have mem : ∀ z, z ∈ ns → z ∈ fM ns := fun z hz => by
    have h1 : (fM ns).any (· == z) = true := by
      unfold fM
      rw [firstMet_any, List.any_eq_true]
      obtain ⟨i, hi, e⟩ := List.getElem_of_mem hz
      refine ⟨z, List.mem_map.mpr ⟨i, List.mem_range.mpr hi, ?_⟩, by simp⟩
      show ns.getD i 0 = z
      rw [List.getD_eq_getElem?_getD, List.getElem?_eq_getElem hi]
      exact e
    obtain ⟨u, hu, e⟩ := List.any_eq_true.mp h1
    rw [← eq_of_beq e]
    exact hu
  have m1 := mem x hx
  have m2 := mem y hy
  match e : fM ns with
  | [] => rw [e] at m1; cases m1
  | [u] =>
    rw [e] at m1 m2
    exact absurd ((List.mem_singleton.mp m1).trans (List.mem_singleton.mp m2).symm) h
  | u :: v :: r => simp only [List.length_cons]; omega
def tLenSetA (K : PySem.W.Frag) (ta : TE) : TE := fun σ H Q => ta σ H fun x H1 => ∃ (l : Addr) (ns : List Int), x = .ref l ∧ SqL K H1 l (ns.map V.int) ∧ ns.length ≤ 4000 ∧ Q (.int ((fM ns).length : Nat)) H1
theorem pe_lenSetA {X : Cx} {K : PySem.W.Frag} (hK : X.K = K) {a : Expr} {ta : TE} {p p2 q pos : Pos} (hg : Gl X "len") (hm : X.mg "len" = none) (hg2 : Gl X "set") (hm2 : X.mg "set" = none) (ha : PE X a ta) (hc : X.calm = true := by rfl)
    (na : starEach [a] X.env = (false, eval a X.env) :: starEach [] X.env := by rfl) : PE X (.Call (.Name "len" p) [.Call (.Name "set" p2) [a] [] q] [] pos) (tLenSetA K ta) := by
  subst hK
  constructor
  intro pins s σ H Q I h
  refine Call_ (ld_blt I hg hm boot_len (PyProof.Rows.callWith_builtin1 (PyProof.Rows.args_cons (Call_ (ld_blt I hg2 hm2 boot_set (PyProof.Rows.callWith_type1 (PyProof.Rows.args_cons (thn (ha.run pins s σ H _ I h) fun v s1 z => PyProof.Rows.args_nil ?_) na) na rfl))) rfl) rfl rfl))
  obtain ⟨x, H1, I1, r1, l, ns, rfl, hq, hl, q1⟩ := z
  cases r1
  obtain ⟨its, rel, pl, room⟩ := I1.list hq
  have many : its.toArray.size = ns.length := by rw [List.size_toArray, ← rel.length, List.length_map]
  refine call_set_list (I1.ok.hd hc) pl.isList (by rw [List.toList_toArray]; exact RZ.intsAre_vals rel) (by rw [many]; unfold scanBound; omega) fun h' tk hS hk => PyProof.Rows.args_nil ?_
  rw [many] at hS
  obtain ⟨o, es, ep, t, ho, hex, hd, _, _, _, hf, hn⟩ := hS
  have I2 : Inv X pins σ H1 { s1 with heap := h', toks := tk } := I1.kept fun b o e => hk b o (Heap.lt_size e) e
  have le := fM_len ns
  unfold fM at le
  exact call_len_set ho hex hd hf (by rw [hn]; omega) ⟨.int ((fM ns).length : Nat), H1, I2.tok _, ⟨_, by rw [hn]; rfl⟩, q1⟩
end Rn

set_option Elab.async false
set_option linter.all false
set_option maxRecDepth 100000
set_option maxHeartbeats 4000000
namespace Rn
open PySem PySem.Spec PyProof.Rows L2
/-! ## periods: by numbers of waits -/
/-- wait number j (from 1) -/
def wt (ws : List Int) (j : Nat) : Option Int := ws[j - 1]?
def PerC (ws : List Int) (n : Nat) : Prop := 1 ≤ n ∧ n ∣ ws.length + 1 ∧ ∀ i j, 1 ≤ i → i < ws.length + 1 → 1 ≤ j → j < ws.length + 1 → i % n = j % n → i % n ≠ 0 → wt ws i = wt ws j
theorem per_c {ws : List Int} {n : Nat} : Per ws n ↔ PerC ws n := by
  constructor
  · rintro ⟨h1, h2, h3⟩
    have key : ∀ i, 1 ≤ i → i < ws.length + 1 → i % n ≠ 0 → wt ws i = ws[i % n - 1]? := fun i i1 i2 i3 => by
      have e := Nat.div_add_mod i n
      have hm := Nat.mod_lt i (show n > 0 by omega)
      have := h3 (i / n) (i % n - 1) (by omega) (by rw [Nat.mul_comm]; omega)
      rw [← this]
      unfold wt
      congr 1
      rw [Nat.mul_comm]
      omega
    exact ⟨h1, h2, fun i j i1 i2 j1 j2 e z => by rw [key i i1 i2 z, key j j1 j2 (by rw [← e]; exact z), e]⟩
  · rintro ⟨h1, h2, h3⟩
    refine ⟨h1, h2, fun c r hr hl => ?_⟩
    have m1 : (c * n + r + 1) % n = r + 1 := by
      rw [Nat.add_assoc, Nat.mul_comm, Nat.mul_add_mod, Nat.mod_eq_of_lt (by omega)]
    have m2 : (r + 1) % n = r + 1 := Nat.mod_eq_of_lt hr
    have := h3 (c * n + r + 1) (r + 1) (by omega) (by omega) (by omega) (by
      have : r ≤ c * n + r := Nat.le_add_left _ _
      omega) (by rw [m1, m2]) (by rw [m1]; omega)
    exact this
/-- what stays under steps of a and of b stays under steps of their greatest common divisor -/
theorem gcd_step {α : Type} {g : Nat} {W : Nat → α} {C : Nat → Prop} (hC : ∀ x d, g ∣ d → C x → C (x + d)) (a b : Nat) : g ∣ a → g ∣ b → (∀ x, C x → W (x + a) = W x) → (∀ x, C x → W (x + b) = W x) → ∀ x, C x → W (x + Nat.gcd a b) = W x := by
  induction a, b using Nat.gcd.induction with
  | H0 b => intro _ _ _ hb x hx; rw [Nat.gcd_zero_left]; exact hb x hx
  | H1 a b ha ih =>
    intro ga gb h1 h2 x hx
    rw [Nat.gcd_rec]
    have gm : g ∣ b % a := (Nat.dvd_mod_iff ga).mpr gb
    have many : ∀ q y, C y → W (y + a * q) = W y := by
      intro q
      induction q with
      | zero => intro y _; rfl
      | succ q ih => intro y hy; rw [Nat.mul_succ, ← Nat.add_assoc, h1 _ (hC y _ (Nat.dvd_mul_right_of_dvd ga q) hy), ih y hy]
    refine ih gm ga (fun y hy => ?_) h1 x hx
    rw [← many (b / a) (y + b % a) (hC y _ gm hy), Nat.add_assoc, Nat.mod_add_div]
    exact h2 y hy
/-- .. and any number of steps -/
theorem steps {α : Type} {g : Nat} {W : Nat → α} {C : Nat → Prop} (hC : ∀ x d, g ∣ d → C x → C (x + d)) {d : Nat} (gd : g ∣ d) (h : ∀ x, C x → W (x + d) = W x) : ∀ k x, C x → W (x + d * k) = W x
  | 0, x, _ => rfl
  | k + 1, x, hx => by rw [Nat.mul_succ, ← Nat.add_assoc, h _ (hC x _ (Nat.dvd_mul_right_of_dvd gd k) hx), steps hC gd h k x hx]
theorem not_dvd_add {g : Nat} (x d : Nat) (h : g ∣ d) (hx : ¬ g ∣ x) : ¬ g ∣ x + d := fun z => hx ((Nat.dvd_add_iff_left h).mpr z)
/-- some number of steps of a leads from x to 1, by b -/
theorem lead {a b : Nat} (hb : 1 ≤ b) (h : Nat.gcd a b = 1) (x : Nat) : ∃ m, (x + m * a) % b = 1 % b := by
  let R : Nat → Prop := fun x => ∃ m, (x + m * a) % b = 1 % b
  have hA : ∀ x, True → R (x + a) = R x := fun x _ => propext ⟨fun ⟨m, e⟩ => ⟨m + 1, by rw [← e]; congr 1; rw [Nat.succ_mul]; omega⟩, fun ⟨m, e⟩ => ⟨m + (b - 1), by
    rw [← e]
    have : x + a + (m + (b - 1)) * a = x + m * a + b * a := by
      have e1 : b * a = (b - 1) * a + a := by rw [← Nat.succ_mul]; congr 1; omega
      rw [e1, Nat.add_mul]
      omega
    rw [this, Nat.add_mul_mod_self_left]⟩⟩
  have hB : ∀ x, True → R (x + b) = R x := fun x _ => propext ⟨fun ⟨m, e⟩ => ⟨m, by rw [← e, show x + b + m * a = x + m * a + b by omega, Nat.add_mod_right]⟩, fun ⟨m, e⟩ => ⟨m, by rw [← e, show x + b + m * a = x + m * a + b by omega, Nat.add_mod_right]⟩⟩
  have h1 := gcd_step (g := 1) (W := R) (C := fun _ => True) (fun _ _ _ _ => trivial) a b (Nat.one_dvd _) (Nat.one_dvd _) hA hB
  rw [h] at h1
  have h2 := steps (g := 1) (W := R) (C := fun _ => True) (fun _ _ _ _ => trivial) (Nat.one_dvd 1) h1
  have h3 : R 1 := ⟨0, by rw [Nat.zero_mul, Nat.add_zero]⟩
  have h4 : R 0 := by
    have := h1 0 trivial
    rw [← this]
    exact h3
  have := h2 x 0 trivial
  rw [Nat.zero_add, Nat.one_mul] at this
  show R x
  rw [this]
  exact h4
theorem wt_ring {ws : List Int} {n : Nat} (h : PerC ws n) : ∀ x, ¬ n ∣ x → wt ws ((x + n) % (ws.length + 1)) = wt ws (x % (ws.length + 1)) := fun x hx => by
  obtain ⟨h1, h2, h3⟩ := h
  have d1 : (x + n) % (ws.length + 1) % n = x % n := by rw [Nat.mod_mod_of_dvd _ h2, Nat.add_mod_right]
  have d2 : x % (ws.length + 1) % n = x % n := Nat.mod_mod_of_dvd _ h2
  have z : x % n ≠ 0 := fun e => hx (Nat.dvd_of_mod_eq_zero e)
  have nz : ∀ y, y % n ≠ 0 → 1 ≤ y := fun y e => by
    cases y with
    | zero => rw [Nat.zero_mod] at e; exact absurd rfl e
    | succ y => omega
  exact h3 _ _ (nz _ (by rw [d1]; exact z)) (Nat.mod_lt _ (by omega)) (nz _ (by rw [d2]; exact z)) (Nat.mod_lt _ (by omega)) (by rw [d1, d2]) (by rw [d1]; exact z)
theorem per_gcd {ws : List Int} {a b : Nat} (ha : PerC ws a) (hb : PerC ws b) : PerC ws (Nat.gcd a b) := by
  have g1 : 1 ≤ Nat.gcd a b := Nat.gcd_pos_of_pos_left _ ha.1
  have ga := Nat.gcd_dvd_left a b
  have gb := Nat.gcd_dvd_right a b
  have step := gcd_step (g := Nat.gcd a b) (W := fun x => wt ws (x % (ws.length + 1))) (C := fun x => ¬ Nat.gcd a b ∣ x) (fun x d hd hx => not_dvd_add x d hd hx) a b ga gb
    (fun x hx => wt_ring ha x fun z => hx (Nat.dvd_trans ga z)) (fun x hx => wt_ring hb x fun z => hx (Nat.dvd_trans gb z))
  generalize Nat.gcd a b = g at *
  have many := steps (g := g) (W := fun x => wt ws (x % (ws.length + 1))) (C := fun x => ¬ g ∣ x) (fun x d hd hx => not_dvd_add x d hd hx) (Nat.dvd_refl g) step
  have base : ∀ i, 1 ≤ i → i < ws.length + 1 → i % g ≠ 0 → wt ws i = wt ws ((i % g) % (ws.length + 1)) := fun i i1 i2 i3 => by
    have m0 := Nat.mod_lt i (show g > 0 by omega)
    have := many (i / g) (i % g) (fun z => i3 (by
      have := Nat.eq_zero_of_dvd_of_lt z m0
      exact this))
    rw [Nat.mod_add_div, Nat.mod_eq_of_lt i2] at this
    exact this
  exact ⟨g1, Nat.dvd_trans ga ha.2.1, fun i j i1 i2 j1 j2 e z => by rw [base i i1 i2 z, base j j1 j2 (by rw [← e]; exact z), e]⟩
theorem per_lcm {ws : List Int} {a b : Nat} (ha : PerC ws a) (hb : PerC ws b) : PerC ws (Nat.lcm a b) := by
  have la := Nat.dvd_lcm_left a b
  have lb := Nat.dvd_lcm_right a b
  refine ⟨Nat.lcm_pos ha.1 hb.1, Nat.lcm_dvd ha.2.1 hb.2.1, fun i j i1 i2 j1 j2 e z => ?_⟩
  have ea : i % a = j % a := by rw [← Nat.mod_mod_of_dvd i la, e, Nat.mod_mod_of_dvd j la]
  have eb : i % b = j % b := by rw [← Nat.mod_mod_of_dvd i lb, e, Nat.mod_mod_of_dvd j lb]
  by_cases za : i % a = 0
  · by_cases zb : i % b = 0
    · exact absurd (Nat.mod_eq_zero_of_dvd (Nat.lcm_dvd (Nat.dvd_of_mod_eq_zero za) (Nat.dvd_of_mod_eq_zero zb))) z
    · exact hb.2.2 i j i1 i2 j1 j2 eb zb
  · exact ha.2.2 i j i1 i2 j1 j2 ea za
/-- between the greatest common divisor and the least common multiple all waits are equal -/
theorem per_between {ws : List Int} {g p q : Nat} (hp : PerC ws (g * p)) (hq : PerC ws (g * q)) (hc : Nat.gcd p q = 1) (hp1 : p ≠ 1) (hq1 : q ≠ 1) :
    ∀ k, 1 ≤ k → k < p * q → wt ws (g * k) = wt ws g := by
  have g0 : 1 ≤ g := by
    cases g with
    | zero => have := hp.1; rw [Nat.zero_mul] at this; omega
    | succ g => omega
  have p0 : 2 ≤ p := by
    have : p ≠ 0 := fun z => by have := hp.1; rw [z, Nat.mul_zero] at this; omega
    omega
  have q0 : 2 ≤ q := by
    have : q ≠ 0 := fun z => by have := hq.1; rw [z, Nat.mul_zero] at this; omega
    omega
  have bound : g * (p * q) ≤ ws.length + 1 := by
    have h1 : Nat.lcm (g * p) (g * q) ∣ ws.length + 1 := Nat.lcm_dvd hp.2.1 hq.2.1
    have h2 : Nat.lcm (g * p) (g * q) = g * (p * q) := by
      rw [Nat.lcm_mul_left]
      congr 1
      unfold Nat.lcm
      rw [hc, Nat.div_one]
    rw [h2] at h1
    exact Nat.le_of_dvd (by omega) h1
  -- steps through one of them
  have via : ∀ (a b : Nat), 2 ≤ a → 2 ≤ b → Nat.gcd a b = 1 → PerC ws (g * a) → PerC ws (g * b) → ∀ k, 1 ≤ k → g * k < ws.length + 1 → ¬ a ∣ k → wt ws (g * k) = wt ws g := fun a b a2 b2 hab ha hb k k1 k2 hk => by
    obtain ⟨m, hm⟩ := lead (a := a) (b := b) (by omega) hab k
    have hm1 : (k + m * a) % b = 1 := by rw [hm, Nat.mod_eq_of_lt (by omega)]
    have nd : ¬ g * a ∣ g * k := fun z => hk (Nat.dvd_of_mul_dvd_mul_left (by omega) z)
    have s1 := steps (g := g * a) (W := fun x => wt ws (x % (ws.length + 1))) (C := fun x => ¬ g * a ∣ x) (fun x d hd hx => not_dvd_add x d hd hx) (Nat.dvd_refl _) (wt_ring ha) m (g * k) nd
    have s1' : wt ws ((g * k + g * a * m) % (ws.length + 1)) = wt ws (g * k % (ws.length + 1)) := s1
    rw [Nat.mod_eq_of_lt k2] at s1'
    rw [← s1']
    have e : g * k + g * a * m = g + g * b * ((k + m * a) / b) := by
      have h := Nat.div_add_mod (k + m * a) b
      rw [hm1] at h
      generalize (k + m * a) / b = t at *
      have h2 : g * (k + m * a) = g * (b * t + 1) := by rw [h]
      rw [Nat.mul_add, Nat.mul_add, Nat.mul_one] at h2
      rw [show g * a * m = g * (m * a) by rw [Nat.mul_assoc, Nat.mul_comm a m], Nat.mul_assoc g b t]
      omega
    rw [e]
    have nd1 : ¬ g * b ∣ g := fun z => by
      have := Nat.le_of_dvd (by omega) z
      have h3 : g * 2 ≤ g * b := Nat.mul_le_mul_left _ b2
      omega
    have s2 := steps (g := g * b) (W := fun x => wt ws (x % (ws.length + 1))) (C := fun x => ¬ g * b ∣ x) (fun x d hd hx => not_dvd_add x d hd hx) (Nat.dvd_refl _) (wt_ring hb) ((k + m * a) / b) g nd1
    have s2' : wt ws ((g + g * b * ((k + m * a) / b)) % (ws.length + 1)) = wt ws (g % (ws.length + 1)) := s2
    rw [s2']
    have hg : g < ws.length + 1 := by
      have : g * 1 ≤ g * k := Nat.mul_le_mul_left _ k1
      omega
    rw [Nat.mod_eq_of_lt hg]
  intro k k1 k2
  have k3 : g * k < ws.length + 1 := Nat.lt_of_lt_of_le (Nat.mul_lt_mul_of_pos_left k2 (by omega)) bound
  by_cases z : p ∣ k
  · have z2 : ¬ q ∣ k := fun z2 => by
      have : Nat.lcm p q ∣ k := Nat.lcm_dvd z z2
      unfold Nat.lcm at this
      rw [hc, Nat.div_one] at this
      have := Nat.le_of_dvd (by omega) this
      omega
    exact via q p q0 p0 (by rw [Nat.gcd_comm]; exact hc) hq hp k k1 k3 z2
  · exact via p q p0 q0 hc hp hq k k1 k3 z
/-! ## the list of inner numbers -/
theorem mem_innL {ws : List Int} {x : Int} : x ∈ innL ws ↔ ∃ n : Nat, x = (n : Int) ∧ PerC ws n := by
  unfold innL
  rw [List.mem_filter, List.mem_map]
  constructor
  · rintro ⟨⟨i, hi, rfl⟩, h⟩
    exact ⟨i + 1, rfl, per_c.mp (per_iff.mp h)⟩
  · rintro ⟨n, rfl, h⟩
    have h1 := h.1
    have h2 := Nat.le_of_dvd (by omega) h.2.1
    exact ⟨⟨n - 1, List.mem_range.mpr (by omega), by omega⟩, per_iff.mpr (per_c.mpr h)⟩
theorem innL_sorted (ws : List Int) : (innL ws).Pairwise (· < ·) := by
  unfold innL
  refine List.Pairwise.filter _ ?_
  rw [List.pairwise_map]
  exact List.pairwise_lt_range.imp fun h => by omega
theorem innL_len (ws : List Int) : (innL ws).length ≤ ws.length + 1 := by
  unfold innL
  refine Nat.le_trans (List.length_filter_le _ _) ?_
  rw [List.length_map, List.length_range]
  exact Nat.le_refl _
theorem sorted_ext : ∀ {xs ys : List Int}, xs.Pairwise (· < ·) → ys.Pairwise (· < ·) → (∀ x, x ∈ xs ↔ x ∈ ys) → xs = ys
  | [], [], _, _, _ => rfl
  | [], y :: ys, _, _, h => absurd ((h y).mpr List.mem_cons_self) (List.not_mem_nil)
  | x :: xs, [], _, _, h => absurd ((h x).mp List.mem_cons_self) (List.not_mem_nil)
  | x :: xs, y :: ys, hx, hy, h => by
    obtain ⟨x1, x2⟩ := List.pairwise_cons.mp hx
    obtain ⟨y1, y2⟩ := List.pairwise_cons.mp hy
    have e : x = y := by
      rcases List.mem_cons.mp ((h x).mp List.mem_cons_self) with z | z
      · exact z
      · rcases List.mem_cons.mp ((h y).mpr List.mem_cons_self) with u | u
        · exact u.symm
        · have := y1 x z
          have := x1 y u
          omega
    subst e
    rw [sorted_ext x2 y2 fun z => ⟨fun m => ?_, fun m => ?_⟩]
    · rcases List.mem_cons.mp ((h z).mp (List.mem_cons_of_mem _ m)) with u | u
      · have := x1 z m
        omega
      · exact u
    · rcases List.mem_cons.mp ((h z).mpr (List.mem_cons_of_mem _ m)) with u | u
      · have := y1 z m
        omega
      · exact u
/-! ## the two parts of a split -/
theorem low_len {ws : List Int} {n : Nat} (h : PerC ws n) : (blk ws n 0).length = n - 1 := by
  have h1 := Nat.le_of_dvd (by omega) h.2.1
  unfold blk
  rw [Nat.zero_mul, List.drop_zero, List.length_take]
  omega
theorem low_wt {ws : List Int} {n j : Nat} (h1 : 1 ≤ j) (h2 : j < n) : wt (blk ws n 0) j = wt ws j := by
  unfold wt
  rw [blk_get (by omega), Nat.zero_mul, Nat.zero_add]
theorem at_all (ws : List Int) : ∀ is : List Nat, (∀ i ∈ is, i < ws.length) → is.filterMap (fun i => ws[i]?) = is.map fun i => ws.getD i 0
  | [], _ => rfl
  | i :: is, h => by
    have hi := h i List.mem_cons_self
    rw [List.filterMap_cons_some (List.getElem?_eq_getElem hi), List.map_cons, at_all ws is fun j hj => h j (List.mem_cons_of_mem _ hj), List.getD_eq_getElem?_getD, List.getElem?_eq_getElem hi]
    rfl
theorem high_is {ws : List Int} {n q : Nat} (hn : 1 ≤ n) (hq : 1 ≤ q) (h : ws.length + 1 = n * q) : pks ws (n - 1) n = (List.range (q - 1)).map fun k => ws.getD (n - 1 + n * k) 0 := by
  have b1 : n * 1 ≤ n * q := Nat.mul_le_mul_left _ hq
  have e : (ws.length - (n - 1) + n - 1) / n = q - 1 := by
    have h2 : n * q = n * (q - 1) + n := by
      rw [← Nat.mul_succ]
      congr 1
      omega
    rw [show ws.length - (n - 1) + n - 1 = n - 1 + n * (q - 1) by omega, Nat.add_mul_div_left _ _ (by omega), Nat.div_eq_of_lt (by omega), Nat.zero_add]
  unfold pks
  rw [e, at_all ws _ fun i hi => ?_, List.map_map]
  · rfl
  · obtain ⟨k, hk, rfl⟩ := List.mem_map.mp hi
    have hk' := List.mem_range.mp hk
    have h3 : n * (k + 2) ≤ n * q := Nat.mul_le_mul_left _ (by omega)
    rw [Nat.mul_add] at h3
    omega
theorem high_len {ws : List Int} {n q : Nat} (hn : 1 ≤ n) (hq : 1 ≤ q) (h : ws.length + 1 = n * q) : (pks ws (n - 1) n).length = q - 1 := by
  rw [high_is hn hq h, List.length_map, List.length_range]
theorem high_wt {ws : List Int} {n q j : Nat} (hn : 1 ≤ n) (hq : 1 ≤ q) (h : ws.length + 1 = n * q) (h1 : 1 ≤ j) (h2 : j < q) : wt (pks ws (n - 1) n) j = wt ws (n * j) := by
  have h3 : n * (j + 1) ≤ n * q := Nat.mul_le_mul_left _ (by omega)
  have h4 : n * j = n * (j - 1) + n := by
    rw [← Nat.mul_succ]
    congr 1
    omega
  rw [Nat.mul_add] at h3
  unfold wt
  rw [high_is hn hq h, List.getElem?_map, List.getElem?_range (by omega), show n * j - 1 = n - 1 + n * (j - 1) by omega]
  show some (ws.getD (n - 1 + n * (j - 1)) 0) = _
  rw [List.getD_eq_getElem?_getD, List.getElem?_eq_getElem (by omega)]
  rfl
theorem per_low {ws : List Int} {n m : Nat} (h : PerC ws n) : PerC (blk ws n 0) m ↔ PerC ws m ∧ m ∣ n := by
  have hl := low_len h
  have h1 := h.1
  have hN := Nat.le_of_dvd (by omega) h.2.1
  have e1 : (blk ws n 0).length + 1 = n := by omega
  constructor
  · rintro ⟨m1, m2, m3⟩
    rw [e1] at m2 m3
    refine ⟨⟨m1, Nat.dvd_trans m2 h.2.1, fun i j i1 i2 j1 j2 e z => ?_⟩, m2⟩
    have red : ∀ i, 1 ≤ i → i < ws.length + 1 → i % m ≠ 0 → 1 ≤ i % n ∧ i % n < n ∧ wt ws i = wt (blk ws n 0) (i % n) ∧ i % n % m = i % m := fun i i1 i2 z => by
      have q1 : i % n % m = i % m := Nat.mod_mod_of_dvd _ m2
      have q2 := Nat.mod_lt i (show n > 0 by omega)
      have q3 : i % n ≠ 0 := fun y => by rw [y, Nat.zero_mod] at q1; exact z q1.symm
      refine ⟨by omega, q2, ?_, q1⟩
      rw [low_wt (by omega) q2]
      exact h.2.2 i (i % n) i1 i2 (by omega) (by omega) (Nat.mod_mod _ _).symm q3
    obtain ⟨a1, a2, a3, a4⟩ := red i i1 i2 z
    obtain ⟨b1, b2, b3, b4⟩ := red j j1 j2 (by rw [← e]; exact z)
    rw [a3, b3]
    exact m3 _ _ a1 a2 b1 b2 (by rw [a4, b4, e]) (by rw [a4]; exact z)
  · rintro ⟨⟨m1, m2, m3⟩, m4⟩
    refine ⟨m1, by rw [e1]; exact m4, ?_⟩
    rw [e1]
    intro i j i1 i2 j1 j2 e z
    rw [low_wt i1 i2, low_wt j1 j2]
    exact m3 i j i1 (by omega) j1 (by omega) e z
theorem per_high {ws : List Int} {n m : Nat} (h : PerC ws n) (hm : 1 ≤ m) : PerC (pks ws (n - 1) n) m ↔ PerC ws (n * m) := by
  have h1 := h.1
  obtain ⟨q, hq⟩ := h.2.1
  have q1 : 1 ≤ q := by
    cases q with
    | zero => rw [Nat.mul_zero] at hq; omega
    | succ q => omega
  have e1 : (pks ws (n - 1) n).length + 1 = q := by rw [high_len h1 q1 hq]; omega
  have lt : ∀ j, j < q → n * j < ws.length + 1 := fun j hj => by rw [hq]; exact Nat.mul_lt_mul_of_pos_left hj (by omega)
  have pos : ∀ j, 1 ≤ j → 1 ≤ n * j := fun j hj => Nat.mul_pos (by omega) (by omega)
  constructor
  · rintro ⟨m1, m2, m3⟩
    rw [e1] at m2 m3
    refine ⟨pos m m1, by rw [hq]; exact Nat.mul_dvd_mul_left n m2, fun i j i1 i2 j1 j2 e z => ?_⟩
    have en : i % n = j % n := by rw [← Nat.mod_mod_of_dvd i (Nat.dvd_mul_right n m), e, Nat.mod_mod_of_dvd j (Nat.dvd_mul_right n m)]
    by_cases zn : i % n = 0
    · obtain ⟨i', rfl⟩ := Nat.dvd_of_mod_eq_zero zn
      obtain ⟨j', rfl⟩ := Nat.dvd_of_mod_eq_zero (show j % n = 0 by rw [← en]; exact zn)
      have i1' : 1 ≤ i' := by
        cases i' with
        | zero => rw [Nat.mul_zero] at i1; omega
        | succ i => omega
      have j1' : 1 ≤ j' := by
        cases j' with
        | zero => rw [Nat.mul_zero] at j1; omega
        | succ i => omega
      rw [hq] at i2 j2
      have i2' := Nat.lt_of_mul_lt_mul_left i2
      have j2' := Nat.lt_of_mul_lt_mul_left j2
      rw [Nat.mul_mod_mul_left, Nat.mul_mod_mul_left] at e
      rw [Nat.mul_mod_mul_left] at z
      rw [← high_wt h1 q1 hq i1' i2', ← high_wt h1 q1 hq j1' j2']
      exact m3 i' j' i1' i2' j1' j2' (Nat.eq_of_mul_eq_mul_left (by omega) e) (fun y => z (by rw [y, Nat.mul_zero]))
    · exact h.2.2 i j i1 i2 j1 j2 en zn
  · rintro ⟨m1, m2, m3⟩
    refine ⟨hm, ?_, ?_⟩
    · rw [e1]
      rw [hq] at m2
      exact Nat.dvd_of_mul_dvd_mul_left (by omega) m2
    · rw [e1]
      intro i j i1 i2 j1 j2 e z
      rw [high_wt h1 q1 hq i1 i2, high_wt h1 q1 hq j1 j2]
      refine m3 _ _ (pos i i1) (lt i i2) (pos j j1) (lt j j2) ?_ ?_
      · rw [Nat.mul_mod_mul_left, Nat.mul_mod_mul_left, e]
      · rw [Nat.mul_mod_mul_left]
        intro y
        rcases Nat.mul_eq_zero.mp y with y | y
        · omega
        · exact z y
/-! ## ints in lists -/
theorem flat_ints (ns : List Int) : (ns.map V.int).all flatV = true := by
  rw [List.all_eq_true]
  intro v hv
  obtain ⟨n, _, rfl⟩ := List.mem_map.mp hv
  rfl
theorem inV_ints (x : Int) (ns : List Int) : inV (.int x) (ns.map V.int) = decide (x ∈ ns) := by
  unfold inV
  rw [List.any_map, Bool.eq_iff_iff, List.any_eq_true, decide_eq_true_eq]
  constructor
  · rintro ⟨n, hn, e⟩
    have e' : (n == x) = true := e
    rw [← eq_of_beq e']
    exact hn
  · intro h
    exact ⟨x, h, by show (x == x) = true; exact BEq.rfl⟩
theorem pair_parts {a b : Nat} (ha : 1 ≤ a) : ∃ p q, a = Nat.gcd a b * p ∧ b = Nat.gcd a b * q ∧ Nat.gcd p q = 1 ∧ Nat.lcm a b = Nat.gcd a b * (p * q) := by
  have g0 : 0 < Nat.gcd a b := Nat.gcd_pos_of_pos_left _ ha
  obtain ⟨p, hp⟩ := Nat.gcd_dvd_left a b
  obtain ⟨q, hq⟩ := Nat.gcd_dvd_right a b
  have hg : Nat.gcd a b * Nat.gcd p q = Nat.gcd a b * 1 := by
    rw [← Nat.gcd_mul_left, ← hp, ← hq, Nat.mul_one]
  have h1 := Nat.eq_of_mul_eq_mul_left g0 hg
  refine ⟨p, q, hp, hq, h1, ?_⟩
  have : Nat.lcm (Nat.gcd a b * p) (Nat.gcd a b * q) = Nat.gcd a b * (p * q) := by
    rw [Nat.lcm_mul_left]
    congr 1
    unfold Nat.lcm
    rw [h1, Nat.div_one]
  rw [← hp, ← hq] at this
  exact this
end Rn

set_option Elab.async false
set_option linter.all false
set_option maxRecDepth 100000
set_option maxHeartbeats 4000000
namespace Rn
open PySem PySem.Spec PyProof.Rows L2
/-! ## unsplittable policies -/
theorem per_one (ws : List Int) : Per ws 1 := ⟨Nat.le_refl _, Nat.one_dvd _, fun c r h _ => absurd h (by omega)⟩
theorem per_all (ws : List Int) : Per ws (ws.length + 1) := ⟨by omega, Nat.dvd_refl _, fun c r h1 h2 => by
  have : c = 0 := by
    rcases Nat.eq_zero_or_pos c with z | z
    · exact z
    · have : 1 * (ws.length + 1) ≤ c * (ws.length + 1) := Nat.mul_le_mul_right _ z
      omega
  rw [this, Nat.zero_mul, Nat.zero_add]⟩
theorem per_const {m n : Nat} {w : Int} : Per (List.replicate m w) n ↔ 1 ≤ n ∧ n ∣ m + 1 := by
  constructor
  · rintro ⟨h1, h2, _⟩
    rw [List.length_replicate] at h2
    exact ⟨h1, h2⟩
  · rintro ⟨h1, h2⟩
    refine ⟨h1, by rw [List.length_replicate]; exact h2, fun c r h3 h4 => ?_⟩
    rw [List.length_replicate] at h4
    rw [List.getElem?_replicate, List.getElem?_replicate, if_pos h4, if_pos (by
      have : r ≤ c * n + r := Nat.le_add_left _ _
      omega)]
theorem per_nest (xs ys : List Int) : Per (nestL xs ys) (xs.length + 1) := by
  have hl := nestL_len xs ys
  refine ⟨by omega, ⟨ys.length + 1, hl⟩, fun c r h1 h2 => ?_⟩
  have h3 : r ≤ c * (xs.length + 1) + r := Nat.le_add_left _ _
  rw [nestL_get _ _ _ h2, nestL_get _ _ r (by omega)]
  have m1 : (c * (xs.length + 1) + r + 1) % (xs.length + 1) = r + 1 := by
    rw [Nat.add_assoc, Nat.mul_comm, Nat.mul_add_mod, Nat.mod_eq_of_lt (by omega)]
  have m2 : (r + 1) % (xs.length + 1) = r + 1 := Nat.mod_eq_of_lt (by omega)
  rw [m1, m2, if_neg (by omega), if_neg (by omega)]
theorem inn_false {ws : List Int} {j : Nat} (h : ¬ Per ws j) : innB ws (j : Int) = false := by
  cases e : innB ws (j : Int) with
  | false => rfl
  | true => exact absurd (per_iff.mp e) h
/-- not trivial and nothing between 1 and all is an inner number -/
def Uns (ws : List Int) : Prop := 0 < ws.length ∧ ∀ j : Nat, 2 ≤ j → j < ws.length + 1 → innB ws (j : Int) = false
def unsB (ws : List Int) : Bool := decide (0 < ws.length) && (List.range (ws.length + 1)).all fun j => !(decide (2 ≤ j) && innB ws ((j : Nat) : Int))
theorem uns_iff {ws : List Int} : unsB ws = true ↔ Uns ws := by
  unfold unsB Uns
  rw [Bool.and_eq_true, decide_eq_true_eq, List.all_eq_true]
  constructor
  · rintro ⟨h1, h2⟩
    refine ⟨h1, fun j j1 j2 => ?_⟩
    have := h2 j (List.mem_range.mpr j2)
    rw [decide_eq_true j1, Bool.true_and] at this
    simpa using this
  · rintro ⟨h1, h2⟩
    refine ⟨h1, fun j hj => ?_⟩
    by_cases c : 2 ≤ j
    · rw [h2 j c (List.mem_range.mp hj), Bool.and_false]
      rfl
    · rw [decide_eq_false c, Bool.false_and]
      rfl
/-- the smallest inner number above 1 -/
def Sm (ws : List Int) (m : Nat) : Prop := (m = ws.length + 1 ∨ (2 ≤ m ∧ m < ws.length + 1 ∧ innB ws (m : Int) = true)) ∧ ∀ j : Nat, 2 ≤ j → j < m → innB ws (j : Int) = false
theorem sm_uns {ws : List Int} {m : Nat} (h : Sm ws m) (h0 : 0 < ws.length) : m = ws.length + 1 ↔ Uns ws := by
  constructor
  · intro e
    exact ⟨h0, fun j j1 j2 => h.2 j j1 (by omega)⟩
  · intro u
    rcases h.1 with e | ⟨h1, h2, h3⟩
    · exact e
    · rw [u.2 m h1 h2] at h3
      cases h3
theorem innL_two {ws : List Int} (h0 : 0 < ws.length) : innL ws = [1, (ws.length : Int) + 1] ↔ Uns ws := by
  constructor
  · intro e
    refine ⟨h0, fun j j1 j2 => inn_false fun hp => ?_⟩
    have hm : (j : Int) ∈ innL ws := mem_innL.mpr ⟨j, rfl, per_c.mp hp⟩
    rw [e] at hm
    simp only [List.mem_cons, List.not_mem_nil, or_false] at hm
    omega
  · intro u
    refine sorted_ext (innL_sorted ws) ?_ fun x => ?_
    · exact List.pairwise_cons.mpr ⟨fun x hx => by rw [List.mem_singleton.mp hx]; omega, List.pairwise_singleton _ _⟩
    · rw [mem_innL]
      simp only [List.mem_cons, List.not_mem_nil, or_false]
      constructor
      · rintro ⟨n, rfl, c⟩
        have n1 := c.1
        have n2 := Nat.le_of_dvd (by omega) c.2.1
        by_cases z1 : n = 1
        · exact .inl (by omega)
        · by_cases z2 : n = ws.length + 1
          · exact .inr (by omega)
          · have := u.2 n (by omega) (by omega)
            rw [per_iff.mpr (per_c.mpr c)] at this
            cases this
      · rintro (rfl | rfl)
        · exact ⟨1, rfl, per_c.mp (per_one ws)⟩
        · exact ⟨ws.length + 1, by push_cast; rfl, per_c.mp (per_all ws)⟩
theorem uns_const {m : Nat} {w : Int} : Uns (List.replicate m w) ↔ 0 < m ∧ ∀ j : Nat, 2 ≤ j → j < m + 1 → ¬ j ∣ m + 1 := by
  unfold Uns
  rw [List.length_replicate]
  constructor
  · rintro ⟨h1, h2⟩
    refine ⟨h1, fun j j1 j2 d => ?_⟩
    have := h2 j j1 j2
    rw [per_iff.mpr (per_const.mpr ⟨by omega, d⟩)] at this
    cases this
  · rintro ⟨h1, h2⟩
    exact ⟨h1, fun j j1 j2 => inn_false fun hp => h2 j j1 j2 (per_const.mp hp).2⟩
end Rn
namespace Rn
open PySem PySem.Spec PyProof.Rows L2
theorem sq_draw {K : PySem.W.Frag} {H0 H1 H' : Hp} {sa a : Addr} {c : Int} {xs : List V} (h : SqL K H0 sa xs) (f : H0 a = none) (s : Same H0 H1) (A : Rdv a c H1 H') : SqL K H' sa xs := by
  rcases h with (h | ⟨o, h⟩) | h
  · have ne : sa ≠ a := fun z => by rw [z, f] at h; cases h
    exact .inl (.inl (hid_get (A.same _ _ (hid_at (s _ _ h) ne ne))).1)
  · have ne : sa ≠ a := fun z => by rw [z, f] at h; cases h
    exact .inl (.inr ⟨o, (hid_get (A.same _ _ (hid_at (s _ _ h) ne ne))).1⟩)
  · exact .inr h
end Rn
namespace Rn
open PySem PySem.Spec PyProof.Rows L2
theorem nest_split {ws : List Int} {n : Nat} (h : PerC ws n) : nestL (blk ws n 0) (pks ws (n - 1) n) = ws := by
  obtain ⟨q, hq⟩ := h.2.1
  have n1 := h.1
  have q1 : 1 ≤ q := by
    rcases Nat.eq_zero_or_pos q with z | z
    · rw [z, Nat.mul_zero] at hq; omega
    · exact z
  have l1 := low_len h
  have l2 := high_len n1 q1 hq
  have ln := nestL_len (blk ws n 0) (pks ws (n - 1) n)
  rw [l1, l2, Nat.sub_add_cancel n1, Nat.sub_add_cancel q1, ← hq] at ln
  apply List.ext_getElem?
  intro j
  by_cases hj : j < ws.length
  · rw [nestL_get _ _ _ (by omega), l1, Nat.sub_add_cancel n1]
    have hdm := Nat.div_add_mod (j + 1) n
    by_cases c : (j + 1) % n = 0
    · rw [if_pos c]
      rw [c, Nat.add_zero] at hdm
      have k1 : 1 ≤ (j + 1) / n := by
        rcases Nat.eq_zero_or_pos ((j + 1) / n) with z | z
        · rw [z, Nat.mul_zero] at hdm; omega
        · exact z
      have k2 : (j + 1) / n < q := by
        rw [Nat.div_lt_iff_lt_mul (by omega), Nat.mul_comm, ← hq]
        omega
      have := high_wt n1 q1 hq k1 k2
      rw [hdm] at this
      exact this
    · rw [if_neg c]
      have ml := Nat.mod_lt (j + 1) (show n > 0 by omega)
      have h1 := low_wt (ws := ws) (n := n) (j := (j + 1) % n) (by omega) ml
      have h2 := h.2.2 (j + 1) ((j + 1) % n) (by omega) (by omega) (by omega) (by
        have := Nat.mod_le (j + 1) n
        omega) (by rw [Nat.mod_mod]) c
      exact h1.trans h2.symm
  · rw [List.getElem?_eq_none (by omega), List.getElem?_eq_none (by omega)]
theorem blk_mem {ws : List Int} {n c : Nat} {x : Int} (h : x ∈ blk ws n c) : x ∈ ws := List.mem_of_mem_drop (List.mem_of_mem_take h)
theorem pks_mem {ws : List Int} {lo c : Nat} {x : Int} (h : x ∈ pks ws lo c) : x ∈ ws := by
  unfold pks at h
  obtain ⟨i, _, hi⟩ := List.mem_filterMap.mp h
  exact List.mem_of_getElem? hi
end Rn

set_option Elab.async false
set_option linter.all false
set_option maxRecDepth 100000
set_option maxHeartbeats 4000000
namespace Rn
open PySem PySem.Spec PyProof.Rows L2
/-! # normal forms: one for each policy -/
def Lay.sz (L : Lay) : Nat := L.waits.length + 1
theorem per_low0 {ws : List Int} {n : Nat} (h : PerC ws n) : (blk ws n 0).length + 1 = n := by
  have := low_len h
  have := h.1
  omega
theorem nestL_inj {xs xs' : List Int} : ∀ {ys ys' : List Int}, xs.length = xs'.length → nestL xs ys = nestL xs' ys' → xs = xs' ∧ ys = ys' := by
  intro ys ys' hl h
  have key : ∀ (zs zs' : List Int), (zs.flatMap fun y => y :: xs) = (zs'.flatMap fun y => y :: xs) → zs = zs' := by
    intro zs
    induction zs with
    | nil => intro zs' h; cases zs' with
      | nil => rfl
      | cons z zs' => simp at h
    | cons z zs ih => intro zs' h; cases zs' with
      | nil => simp at h
      | cons z' zs' =>
        rw [List.flatMap_cons, List.flatMap_cons, List.cons_append, List.cons_append] at h
        injection h with h1 h2
        rw [h1, ih zs' (List.append_cancel_left h2)]
  unfold nestL at h
  obtain ⟨e1, e2⟩ := List.append_inj h hl
  subst e1
  exact ⟨rfl, key _ _ e2⟩
/-- a list of equal waits -/
def Flat1 (ns : List Int) : Prop := ∃ w, ns = List.replicate ns.length w
theorem flat1_of {ns : List Int} {w : Int} (h : ∀ x ∈ ns, x = w) : ns = List.replicate ns.length w := List.eq_replicate_iff.mpr ⟨rfl, h⟩
/-- a layer of a normal form -/
def Lay.nf : Lay → Prop
  | .con w n => 0 ≤ w ∧ 2 ≤ n
  | .pol ns => Uns ns ∧ ¬ Flat1 ns ∧ ∀ x ∈ ns, 0 ≤ x
theorem Lay.nf.ok {L : Lay} (h : L.nf) : L.ok = true := by
  cases L with
  | con w n =>
    obtain ⟨h1, h2⟩ := h
    rw [Lay.ok_con, decide_eq_true h1, decide_eq_true (show 1 ≤ n by omega)]
    rfl
  | pol ns =>
    rw [Lay.ok_pol, List.all_eq_true]
    exact fun x hx => decide_eq_true (h.2.2 x hx)
theorem Lay.nf.sz {L : Lay} (h : L.nf) : 2 ≤ L.sz := by
  cases L with
  | con w n =>
    show 2 ≤ (List.replicate (n - 1).toNat w).length + 1
    rw [List.length_replicate]
    have := h.2
    omega
  | pol ns =>
    show 2 ≤ ns.length + 1
    have := h.1.1
    omega
/-- no neighbouring constant layers with one wait -/
def Adj (ls : List Lay) : Prop := ∀ (i : Nat) (w n w' m : Int), ls[i]? = some (.con w n) → ls[i + 1]? = some (.con w' m) → w ≠ w'
def NF (ls : List Lay) : Prop := (∀ L ∈ ls, L.nf) ∧ Adj ls
theorem NF.tail {L : Lay} {ls : List Lay} (h : NF (L :: ls)) : NF ls := ⟨fun M hM => h.1 M (List.mem_cons_of_mem _ hM), fun i w n w' m a b => h.2 (i + 1) w n w' m a b⟩
theorem NF.oks {ls : List Lay} (h : NF ls) : ∀ L ∈ ls, L.ok = true := fun L hL => (h.1 L hL).ok
theorem head_per {L : Lay} {ls : List Lay} (h : ∀ M ∈ L :: ls, M.ok = true) : PerC (flatL (L :: ls)) L.sz := by
  rw [flatL_cons h]
  exact per_c.mp (per_nest _ _)
theorem head_split {L : Lay} {ls : List Lay} (h : ∀ M ∈ L :: ls, M.ok = true) : blk (flatL (L :: ls)) L.sz 0 = L.waits ∧ pks (flatL (L :: ls)) (L.sz - 1) L.sz = flatL ls := by
  have hp := head_per h
  have e := nest_split hp
  have l0 := per_low0 hp
  have e2 := flatL_cons h
  refine nestL_inj ?_ (e.trans e2)
  unfold Lay.sz at l0 ⊢
  omega
/-- an unsplittable inner part that is not constant stands in every inner part -/
theorem uns_in {ws : List Int} {a q : Nat} (ha : PerC ws a) (hu : Uns (blk ws a 0)) (hn : ¬ Flat1 (blk ws a 0)) (hq : PerC ws q) (q2 : 2 ≤ q) : a ∣ q := by
  have hg := per_gcd ha hq
  have ga := Nat.gcd_dvd_left a q
  have gq := Nat.gcd_dvd_right a q
  have la := per_low0 ha
  have a0 := hu.1
  by_cases c1 : Nat.gcd a q = a
  · exact c1 ▸ gq
  · exfalso
    have g0 : 1 ≤ Nat.gcd a q := Nat.gcd_pos_of_pos_left _ (by omega)
    have gle := Nat.le_of_dvd (by omega) ga
    by_cases c2 : Nat.gcd a q = 1
    · have hb := per_between (g := 1) (p := a) (q := q) (by rw [Nat.one_mul]; exact ha) (by rw [Nat.one_mul]; exact hq) c2 (by omega) (by omega)
      apply hn
      refine ⟨(blk ws a 0).getD 0 0, flat1_of fun x hx => ?_⟩
      obtain ⟨i, hi, e⟩ := List.getElem_of_mem hx
      have w1 := low_wt (ws := ws) (n := a) (j := i + 1) (by omega) (by omega)
      have w2 := low_wt (ws := ws) (n := a) (j := 1) (by omega) (by omega)
      have h1 := hb (i + 1) (by omega) (by
        have : a * 2 ≤ a * q := Nat.mul_le_mul_left _ q2
        omega)
      rw [Nat.one_mul] at h1
      have h2 : wt (blk ws a 0) (i + 1) = wt (blk ws a 0) 1 := by rw [w1, w2, h1]
      unfold wt at h2
      rw [Nat.add_sub_cancel, Nat.sub_self, List.getElem?_eq_getElem hi] at h2
      rw [List.getD_eq_getElem?_getD, ← h2, ← e]
      rfl
    · have h1 : PerC (blk ws a 0) (Nat.gcd a q) := (per_low ha).mpr ⟨hg, ga⟩
      have h2 := hu.2 (Nat.gcd a q) (by omega) (by omega)
      rw [per_iff.mpr (per_c.mpr h1)] at h2
      cases h2
theorem blk_prefix {ws : List Int} {a q : Nat} (h : a ≤ q) (ha : 1 ≤ a) : blk ws a 0 = (blk ws q 0).take (a - 1) := by
  unfold blk
  rw [Nat.zero_mul, Nat.zero_mul, List.take_take]
  congr 1
  omega
theorem flat1_take {xs : List Int} {k : Nat} (h : Flat1 xs) : Flat1 (xs.take k) := by
  obtain ⟨w, hw⟩ := h
  refine ⟨w, flat1_of fun x hx => ?_⟩
  have := List.mem_of_mem_take hx
  rw [hw] at this
  exact (List.mem_replicate.mp this).2
/-- where an inner part is constant, the first layer is a constant one with its wait -/
theorem head_con {ls : List Lay} (h : NF ls) {q : Nat} {w : Int} (hq : PerC (flatL ls) q) (q2 : 2 ≤ q) (hw : ∀ x ∈ blk (flatL ls) q 0, x = w) : ∃ n r, ls = .con w n :: r := by
  have lq := per_low0 hq
  cases ls with
  | nil =>
    have := Nat.le_of_dvd (by omega) hq.2.1
    have e : (flatL []).length = 0 := rfl
    omega
  | cons L r =>
    obtain ⟨e1, e2⟩ := head_split h.oks
    have hp := head_per h.oks
    have hL := h.1 L List.mem_cons_self
    cases L with
    | pol ns =>
      exfalso
      have hd := uns_in hp (by rw [e1]; exact hL.1) (by rw [e1]; exact hL.2.1) hq q2
      have hle := Nat.le_of_dvd (by omega) hd
      have e3 := blk_prefix (ws := flatL (.pol ns :: r)) hle hp.1
      apply hL.2.1
      have e4 : ns = (blk (flatL (.pol ns :: r)) q 0).take ((Lay.pol ns).sz - 1) := by rw [← e3, e1]; rfl
      rw [e4]
      exact flat1_take ⟨w, flat1_of hw⟩
    | con v n =>
      have hs := hL.sz
      have l1 := per_low0 hp
      have p1 := low_wt (ws := flatL (.con v n :: r)) (n := (Lay.con v n).sz) (j := 1) (Nat.le_refl _) (by omega)
      have p2 := low_wt (ws := flatL (.con v n :: r)) (n := q) (j := 1) (Nat.le_refl _) (by omega)
      have p3 := p1.trans p2.symm
      unfold wt at p3
      rw [e1, Nat.sub_self] at p3
      have hq0 : 0 < (blk (flatL (.con v n :: r)) q 0).length := by omega
      rw [List.getElem?_eq_getElem hq0] at p3
      have x1 := hw _ (List.getElem_mem hq0)
      rw [x1] at p3
      have x2 : (List.replicate (n - 1).toNat v)[0]? = some w := p3
      have x3 := List.mem_of_getElem? x2
      rw [(List.mem_replicate.mp x3).2]
      exact ⟨n, r, rfl⟩
/-- two first layers, both constant: one divides the other -/
theorem con_con {w n v m : Int} {ls ms : List Lay} (hl : NF (.con w n :: ls)) (hm : NF (.con v m :: ms)) (e : flatL (.con w n :: ls) = flatL (.con v m :: ms)) : (Lay.con v m).sz ∣ (Lay.con w n).sz := by
  have pa := head_per hl.oks
  have pb := head_per hm.oks
  rw [← e] at pb
  obtain ⟨a1, a2⟩ := head_split hl.oks
  obtain ⟨b1, b2⟩ := head_split hm.oks
  rw [← e] at b1 b2
  have sa := (hl.1 _ List.mem_cons_self).sz
  have sb := (hm.1 _ List.mem_cons_self).sz
  generalize hws : flatL (.con w n :: ls) = ws at *
  generalize ha : (Lay.con w n).sz = a at *
  generalize hb : (Lay.con v m).sz = b at *
  have la := per_low0 pa
  have lb := per_low0 pb
  have wa : ∀ j, 1 ≤ j → j < a → wt ws j = some w := fun j j1 j2 => by
    rw [← low_wt j1 j2]
    unfold wt
    rw [a1]
    have : j - 1 < (Lay.con w n).waits.length := by rw [a1] at la; omega
    rw [List.getElem?_eq_getElem this]
    have := List.getElem_mem this
    exact congrArg some (List.mem_replicate.mp (show _ ∈ List.replicate (n - 1).toNat w from this)).2
  have wb : ∀ j, 1 ≤ j → j < b → wt ws j = some v := fun j j1 j2 => by
    rw [← low_wt j1 j2]
    unfold wt
    rw [b1]
    have : j - 1 < (Lay.con v m).waits.length := by rw [b1] at lb; omega
    rw [List.getElem?_eq_getElem this]
    have := List.getElem_mem this
    exact congrArg some (List.mem_replicate.mp (show _ ∈ List.replicate (m - 1).toNat v from this)).2
  have ewv : w = v := Option.some.inj ((wa 1 (Nat.le_refl _) (by omega)).symm.trans (wb 1 (Nat.le_refl _) (by omega)))
  subst ewv
  have pl := per_lcm pa pb
  have dl : a ∣ Nat.lcm a b := Nat.dvd_lcm_left a b
  obtain ⟨c, hc⟩ := dl
  by_cases c1 : c = 1
  · rw [c1, Nat.mul_one] at hc
    rw [← hc]
    exact Nat.dvd_lcm_right a b
  · exfalso
    have c0 : c ≠ 0 := by
      intro z
      rw [z, Nat.mul_zero] at hc
      have := Nat.lcm_pos (show 0 < a by omega) (show 0 < b by omega)
      omega
    have ph : PerC (pks ws (a - 1) a) c := (per_high pa (by omega)).mpr (by rw [← hc]; exact pl)
    have lle := Nat.le_of_dvd (by omega) pl.2.1
    obtain ⟨q, hq⟩ := pa.2.1
    have q1 : 1 ≤ q := by
      rcases Nat.eq_zero_or_pos q with z | z
      · rw [z, Nat.mul_zero] at hq; omega
      · exact z
    have lhi := high_len pa.1 q1 hq
    have lc := per_low0 ph
    have cq := Nat.le_of_dvd (by omega) ph.2.1
    rw [lhi] at cq
    rw [a2] at ph lc
    obtain ⟨k, r, hr⟩ := head_con hl.tail (w := w) ph (by omega) fun x hx => by
      obtain ⟨i, hi, ex⟩ := List.getElem_of_mem hx
      have h1 := low_wt (ws := flatL ls) (n := c) (j := i + 1) (by omega) (by omega)
      have h2 := high_wt (ws := ws) pa.1 q1 hq (j := i + 1) (by omega) (by omega)
      rw [a2] at h2
      have h3 := h1.trans h2
      unfold wt at h3
      rw [Nat.add_sub_cancel, List.getElem?_eq_getElem hi, ex] at h3
      have hlt : a * (i + 1) < Nat.lcm a b := by
        rw [hc]
        exact Nat.mul_lt_mul_of_pos_left (by omega) (by omega)
      have nd : (a * (i + 1)) % b ≠ 0 := fun z => by
        have d1 : b ∣ a * (i + 1) := Nat.dvd_of_mod_eq_zero z
        have d2 := Nat.lcm_dvd (Nat.dvd_mul_right a (i + 1)) d1
        have pos : 0 < a * (i + 1) := Nat.mul_pos (by omega) (by omega)
        have := Nat.le_of_dvd pos d2
        omega
      have ml := Nat.mod_lt (a * (i + 1)) (show b > 0 by omega)
      have pos : 1 ≤ a * (i + 1) := Nat.mul_pos (by omega) (by omega)
      have mle := Nat.mod_le (a * (i + 1)) b
      have h4 := pb.2.2 (a * (i + 1)) ((a * (i + 1)) % b) pos (by omega) (by omega) (by omega) (by rw [Nat.mod_mod]) nd
      have h5 := wb ((a * (i + 1)) % b) (by omega) ml
      unfold wt at h4 h5
      rw [← h3, h5] at h4
      exact Option.some.inj h4
    rw [hr] at hl
    exact hl.2 0 w n w k rfl rfl rfl
theorem nf_unique : ∀ {ls ms : List Lay}, NF ls → NF ms → flatL ls = flatL ms → ls = ms := by
  have short : ∀ {L : Lay} {r : List Lay}, NF (L :: r) → 0 < (flatL (L :: r)).length := fun {L r} h => by
    have hp := head_per h.oks
    have hs := (h.1 L List.mem_cons_self).sz
    have := Nat.le_of_dvd (by omega) hp.2.1
    omega
  intro ls
  induction ls with
  | nil =>
    intro ms _ hm e
    cases ms with
    | nil => rfl
    | cons M r =>
      have := short hm
      rw [← e] at this
      exact absurd this (Nat.lt_irrefl 0)
  | cons L ls ih =>
    intro ms hl hm e
    cases ms with
    | nil =>
      have := short hl
      rw [e] at this
      exact absurd this (Nat.lt_irrefl 0)
    | cons M ms =>
      have pa := head_per hl.oks
      have pb := head_per hm.oks
      obtain ⟨a1, a2⟩ := head_split hl.oks
      obtain ⟨b1, b2⟩ := head_split hm.oks
      have nL := hl.1 L List.mem_cons_self
      have nM := hm.1 M List.mem_cons_self
      have sa := nL.sz
      have sb := nM.sz
      have fin : L.sz = M.sz → L = M → L :: ls = M :: ms := fun e1 e2 => by
        subst e2
        rw [flatL_cons hl.oks, flatL_cons hm.oks] at e
        rw [ih hl.tail hm.tail (nestL_inj rfl e).2]
      have same : L.sz = M.sz → L.waits = M.waits := fun e1 => by rw [← a1, ← b1, e, e1]
      cases L with
      | pol ns =>
        have ua := fun {q : Nat} (hq : PerC (flatL (.pol ns :: ls)) q) (q2 : 2 ≤ q) => uns_in pa (by rw [a1]; exact nL.1) (by rw [a1]; exact nL.2.1) hq q2
        cases M with
        | pol ms' =>
          have d1 := ua (by rw [e]; exact pb) sb
          have d2 := uns_in pb (by rw [b1]; exact nM.1) (by rw [b1]; exact nM.2.1) (by rw [← e]; exact pa) sa
          have es := Nat.dvd_antisymm d1 d2
          have := same es
          exact fin es (congrArg Lay.pol this)
        | con v m =>
          exfalso
          have d1 := ua (by rw [e]; exact pb) sb
          have hle := Nat.le_of_dvd (by omega) d1
          have e3 := blk_prefix (ws := flatL (.pol ns :: ls)) hle pa.1
          rw [a1, e, b1] at e3
          apply nL.2.1
          have e4 : ns = (Lay.con v m).waits.take ((Lay.pol ns).sz - 1) := e3
          rw [e4]
          exact flat1_take ⟨v, by
            show List.replicate (m - 1).toNat v = List.replicate (List.replicate (m - 1).toNat v).length v
            rw [List.length_replicate]⟩
      | con w n =>
        cases M with
        | pol ms' =>
          exfalso
          have d1 := uns_in pb (by rw [b1]; exact nM.1) (by rw [b1]; exact nM.2.1) (by rw [← e]; exact pa) sa
          have hle := Nat.le_of_dvd (by omega) d1
          have e3 := blk_prefix (ws := flatL (.pol ms' :: ms)) hle pb.1
          rw [b1, ← e, a1] at e3
          apply nM.2.1
          have e4 : ms' = (Lay.con w n).waits.take ((Lay.pol ms').sz - 1) := e3
          rw [e4]
          exact flat1_take ⟨w, by
            show List.replicate (n - 1).toNat w = List.replicate (List.replicate (n - 1).toNat w).length w
            rw [List.length_replicate]⟩
        | con v m =>
          have d1 := con_con hl hm e
          have d2 := con_con hm hl e.symm
          have es := Nat.dvd_antisymm d2 d1
          have ew := same es
          have s1 : (Lay.con w n).sz = (n - 1).toNat + 1 := by
            show (List.replicate (n - 1).toNat w).length + 1 = _
            rw [List.length_replicate]
          have s2 : (Lay.con v m).sz = (m - 1).toNat + 1 := by
            show (List.replicate (m - 1).toNat v).length + 1 = _
            rw [List.length_replicate]
          have n2 := nL.2
          have m2 := nM.2
          have enm : n = m := by omega
          subst enm
          obtain ⟨k, hk⟩ : ∃ k, (n - 1).toNat = k + 1 := ⟨(n - 1).toNat - 1, by omega⟩
          have ew' : List.replicate (n - 1).toNat w = List.replicate (n - 1).toNat v := ew
          rw [hk, List.replicate_succ, List.replicate_succ] at ew'
          injection ew' with ew1 ew2
          subst ew1
          exact fin rfl rfl
end Rn
namespace Rn
open PySem PySem.Spec PyProof.Rows L2
/-! ## the parts of a list -/
theorem sm_per {ws : List Int} {n : Nat} (h : Sm ws n) (h0 : 0 < ws.length) : 2 ≤ n ∧ PerC ws n := by
  rcases h.1 with e | ⟨h1, h2, h3⟩
  · exact ⟨by omega, by rw [e]; exact per_c.mp (per_all ws)⟩
  · exact ⟨h1, per_c.mp (per_iff.mp h3)⟩
theorem sm_uns_low {ws : List Int} {n : Nat} (h : Sm ws n) (h0 : 0 < ws.length) : Uns (blk ws n 0) := by
  obtain ⟨n2, hp⟩ := sm_per h h0
  have hl := per_low0 hp
  refine ⟨by omega, fun j j1 j2 => inn_false fun z => ?_⟩
  have h1 := ((per_low hp).mp (per_c.mp z)).1
  have := h.2 j j1 (by omega)
  rw [per_iff.mpr (per_c.mpr h1)] at this
  cases this
inductive Parts : List Int → List Lay → Prop
  | nil : Parts [] []
  | con {ws : List Int} {n : Nat} {w : Int} {ls : List Lay} (h0 : 0 < ws.length) (hm : Sm ws n) (hc : blk ws n 0 = List.replicate (n - 1) w) (t : Parts (pks ws (n - 1) n) ls) : Parts ws (.con w (n : Int) :: ls)
  | pol {ws : List Int} {n : Nat} {ls : List Lay} (h0 : 0 < ws.length) (hm : Sm ws n) (hc : ¬ Flat1 (blk ws n 0)) (t : Parts (pks ws (n - 1) n) ls) : Parts ws (.pol (blk ws n 0) :: ls)
theorem parts_ok {ws : List Int} {ls : List Lay} (h : Parts ws ls) (hn : ∀ x ∈ ws, 0 ≤ x) : (∀ L ∈ ls, L.nf) ∧ flatL ls = ws := by
  induction h with
  | nil => exact ⟨(fun _ z => nomatch z), rfl⟩
  | con h0 hm hc t ih =>
    rename_i ws n w ls
    obtain ⟨i1, i2⟩ := ih fun x hx => hn x (pks_mem hx)
    obtain ⟨n2, hp⟩ := sm_per hm h0
    have hw : w ∈ blk ws n 0 := by rw [hc]; exact List.mem_replicate.mpr ⟨by omega, rfl⟩
    have g : (Lay.con w (n : Int)).nf := ⟨hn w (blk_mem hw), by omega⟩
    have all : ∀ L ∈ Lay.con w (n : Int) :: ls, L.nf := fun L hL => by
      rcases List.mem_cons.mp hL with e | e
      · rw [e]; exact g
      · exact i1 L e
    refine ⟨all, ?_⟩
    rw [flatL_cons fun L hL => (all L hL).ok, i2]
    have e : (Lay.con w (n : Int)).waits = blk ws n 0 := by
      rw [hc]
      show List.replicate ((n : Int) - 1).toNat w = _
      congr 1
      omega
    rw [e, nest_split hp]
  | pol h0 hm hc t ih =>
    rename_i ws n ls
    obtain ⟨i1, i2⟩ := ih fun x hx => hn x (pks_mem hx)
    obtain ⟨n2, hp⟩ := sm_per hm h0
    have g : (Lay.pol (blk ws n 0)).nf := ⟨sm_uns_low hm h0, hc, fun x hx => hn x (blk_mem hx)⟩
    have all : ∀ L ∈ Lay.pol (blk ws n 0) :: ls, L.nf := fun L hL => by
      rcases List.mem_cons.mp hL with e | e
      · rw [e]; exact g
      · exact i1 L e
    refine ⟨all, ?_⟩
    rw [flatL_cons fun L hL => (all L hL).ok, i2]
    exact nest_split hp
/-! ## merging -/
def pushL (acc : List Lay) (L : Lay) : List Lay :=
  match acc.getLast?, L with
  | some (.con w n), .con v m => if w = v then acc.dropLast ++ [.con w (n * m)] else acc ++ [L]
  | _, _ => acc ++ [L]
def mergeL (ls : List Lay) : List Lay := ls.foldl pushL []
theorem flatF {ls : List Lay} (h : ∀ L ∈ ls, L.ok = true) (L : Lay) (hL : L.ok = true) : flatL (ls ++ [L]) = nestL (flatL ls) L.waits := by
  have h2 : ∀ M ∈ ls ++ [L], M.ok = true := fun M hM => by
    rcases List.mem_append.mp hM with z | z
    · exact h M z
    · rw [List.mem_singleton.mp z]; exact hL
  rw [flatL_fold h2, flatL_fold h, List.foldl_append]
  rfl
theorem nest_rep (a b : Nat) (w : Int) : nestL (List.replicate a w) (List.replicate b w) = List.replicate ((a + 1) * (b + 1) - 1) w := by
  refine List.eq_replicate_iff.mpr ⟨?_, fun x hx => ?_⟩
  · have := nestL_len (List.replicate a w) (List.replicate b w)
    rw [List.length_replicate, List.length_replicate] at this
    omega
  · rcases nestL_mem hx with z | z
    · exact (List.mem_replicate.mp z).2
    · exact (List.mem_replicate.mp z).2
theorem push_cases (acc : List Lay) (L : Lay) : (∃ A w n m, acc = A ++ [.con w n] ∧ L = .con w m ∧ pushL acc L = A ++ [.con w (n * m)]) ∨ (pushL acc L = acc ++ [L] ∧ ∀ A w n v m, acc = A ++ [.con w n] → L = .con v m → w ≠ v) := by
  unfold pushL
  rcases List.eq_nil_or_concat acc with e | ⟨A, B, e⟩
  · subst e
    exact .inr ⟨rfl, fun A w n v m z => absurd z (by simp)⟩
  · rw [List.concat_eq_append] at e
    subst e
    rw [List.getLast?_append, List.getLast?_singleton, Option.some_or]
    cases B with
    | pol ns => exact .inr ⟨rfl, fun A' w n v m z => by have := (List.append_inj' z rfl).2; cases this⟩
    | con w n =>
      cases L with
      | pol ms => exact .inr ⟨rfl, fun A' w n v m z z2 => by cases z2⟩
      | con v m =>
        by_cases c : w = v
        · subst c
          exact .inl ⟨A, w, n, m, rfl, rfl, by rw [List.dropLast_concat]; exact if_pos rfl⟩
        · refine .inr ⟨if_neg c, fun A' w' n' v' m' z z2 => ?_⟩
          have := (List.append_inj' z rfl).2
          cases this
          cases z2
          exact c
theorem push_ok {acc : List Lay} {L : Lay} (h : NF acc) (hL : L.nf) : NF (pushL acc L) ∧ flatL (pushL acc L) = nestL (flatL acc) L.waits := by
  rcases push_cases acc L with ⟨A, w, n, m, rfl, rfl, e⟩ | ⟨e, hne⟩
  · rw [e]
    have hc := h.1 (.con w n) (List.mem_append_right _ List.mem_cons_self)
    have n2 : 2 ≤ n := hc.2
    have m2 : 2 ≤ m := hL.2
    have nm : 2 * 2 ≤ n * m := Int.mul_le_mul n2 m2 (by decide) (by omega)
    have g : (Lay.con w (n * m)).nf := ⟨hc.1, by omega⟩
    have hA : ∀ M ∈ A, M.nf := fun M hM => h.1 M (List.mem_append_left _ hM)
    refine ⟨⟨fun M hM => ?_, fun i v k v' k' a b => ?_⟩, ?_⟩
    · rcases List.mem_append.mp hM with z | z
      · exact hA M z
      · rw [List.mem_singleton.mp z]; exact g
    · have hi : i + 1 < (A ++ [Lay.con w (n * m)]).length := (List.getElem?_eq_some_iff.mp b).1
      rw [List.length_append, List.length_singleton] at hi
      rw [List.getElem?_append_left (by omega)] at a
      by_cases hj : i + 1 < A.length
      · rw [List.getElem?_append_left hj] at b
        exact h.2 i v k v' k' (by rw [List.getElem?_append_left (by omega)]; exact a) (by rw [List.getElem?_append_left hj]; exact b)
      · have ej : i + 1 = A.length := by omega
        rw [List.getElem?_append_right (by omega), ej, Nat.sub_self] at b
        cases b
        exact h.2 i v k w n (by rw [List.getElem?_append_left (by omega)]; exact a) (by rw [List.getElem?_append_right (by omega), ej, Nat.sub_self]; rfl)
    · rw [flatF (fun M hM => (hA M hM).ok) _ g.ok, flatF (fun M hM => (hA M hM).ok) _ hc.ok, nestL_assoc]
      congr 1
      show List.replicate (n * m - 1).toNat w = nestL (List.replicate (n - 1).toNat w) (List.replicate (m - 1).toNat w)
      rw [nest_rep, show (n - 1).toNat + 1 = n.toNat by omega, show (m - 1).toNat + 1 = m.toNat by omega, ← Int.toNat_mul (by omega) (by omega)]
      congr 1
      omega
  · rw [e]
    refine ⟨⟨fun M hM => ?_, fun i v k v' k' a b => ?_⟩, flatF h.oks L hL.ok⟩
    · rcases List.mem_append.mp hM with z | z
      · exact h.1 M z
      · rw [List.mem_singleton.mp z]; exact hL
    · have hi : i + 1 < (acc ++ [L]).length := (List.getElem?_eq_some_iff.mp b).1
      rw [List.length_append, List.length_singleton] at hi
      rw [List.getElem?_append_left (by omega)] at a
      by_cases hj : i + 1 < acc.length
      · rw [List.getElem?_append_left hj] at b
        exact h.2 i v k v' k' a b
      · have ej : i + 1 = acc.length := by omega
        rw [List.getElem?_append_right (by omega), ej, Nat.sub_self] at b
        have b : some L = some (Lay.con v' k') := b
        have hA : acc = acc.dropLast ++ [Lay.con v k] := by
          have hne2 : acc ≠ [] := fun z => by rw [z] at ej; simp at ej
          have h1 := (List.dropLast_concat_getLast hne2).symm
          have h2 : acc.getLast hne2 = Lay.con v k := by
            have h3 : acc[acc.length - 1]? = some (acc.getLast hne2) := by rw [← List.getLast?_eq_getElem?, List.getLast?_eq_some_getLast hne2]
            rw [show acc.length - 1 = i by omega, a] at h3
            exact (Option.some.inj h3).symm
          rw [h2] at h1
          exact h1
        exact hne _ v k v' k' hA (Option.some.inj b)
theorem merge_from : ∀ (ls : List Lay) {acc : List Lay}, NF acc → (∀ L ∈ ls, L.nf) → NF (ls.foldl pushL acc) ∧ flatL (ls.foldl pushL acc) = ls.foldl (fun a L => nestL a L.waits) (flatL acc)
  | [], acc, h, _ => ⟨h, rfl⟩
  | L :: ls, acc, h, hl => by
    obtain ⟨p1, p2⟩ := push_ok h (hl L List.mem_cons_self)
    obtain ⟨q1, q2⟩ := merge_from ls p1 fun M hM => hl M (List.mem_cons_of_mem _ hM)
    exact ⟨q1, by rw [List.foldl_cons, q2, p2, List.foldl_cons]⟩
theorem merge_ok {ls : List Lay} (h : ∀ L ∈ ls, L.nf) : NF (mergeL ls) ∧ flatL (mergeL ls) = flatL ls := by
  have h0 : NF ([] : List Lay) := ⟨(fun _ z => nomatch z), fun i w n w' m a => by cases a⟩
  obtain ⟨p1, p2⟩ := merge_from ls h0 h
  refine ⟨p1, ?_⟩
  rw [flatL_fold fun L hL => (h L hL).ok]
  exact p2
/-! ## rules of the written part; comprehensions with two for -/
theorem pi_listK {X : Cx} {K : PySem.W.Frag} (h : X.K = K) {tg l : Expr} {tl : TE} (hl : PE X l tl) : PI X tg l (iList K tl) := by subst h; exact pi_list hl
/-- the inner for, over a list that stands still -/
theorem in_list {K : PySem.W.Frag} {b : Addr} {ys : List V} {g1 : TG} {tt1 : TT} {te : TE} {vs1 : List Nat} {σ2 : L2.St} {H4 : Hp} {D : Addr} {Nx : Hp → Prop} (Pw : Nat → Hp → Prop) (h0 : Pw 0 H4) (hl : ∀ j H, j ≤ ys.length → Pw j H → SqL K H b ys)
    (hs : ∀ j y H, ys[j]? = some y → Pw j H → g1 y (wipe σ2 vs1) H fun σ3 H5 => wipe σ3 vs1 = wipe σ2 vs1 ∧ tt1 σ3 H5 fun c H6 => if c = true then te σ3 H6 fun v H7 => ∃ acc, H7 D = some (.lst acc) ∧ acc.length < sizeLine ∧ Pw (j + 1) (upd H7 D (.lst (acc ++ [v]))) else Pw (j + 1) H6)
    (hd : ∀ H, Pw ys.length H → Nx H) :
    ∃ W1 : Nat → Nat → Hp → Prop, (∃ m, W1 0 m H4) ∧ ∀ j k H, W1 j k H →
      ((Itl K b).stop j H ∧ Nx H) ∨ ((Itl K b).go j H ∧ ∃ Nx1 : Hp → Prop, (∀ H', Nx1 H' → ∃ k', k' < k ∧ W1 (j + 1) k' H') ∧ ∀ x H', (Itl K b).yld j H x H' → g1 x (wipe σ2 vs1) H' fun σ3 H5 => wipe σ3 vs1 = wipe σ2 vs1 ∧ tt1 σ3 H5 fun c H6 =>
        if c = true then te σ3 H6 fun y H7 => ∃ acc, H7 D = some (.lst acc) ∧ acc.length < sizeLine ∧ Nx1 (upd H7 D (.lst (acc ++ [y]))) else Nx1 H6) := by
  refine ⟨fun i m H => m = ys.length - i ∧ i ≤ ys.length ∧ Pw i H, ⟨ys.length, by simp, Nat.zero_le _, h0⟩, ?_⟩
  rintro i m H ⟨rfl, hi, p⟩
  have q := hl i H hi p
  by_cases hlt : i < ys.length
  · refine .inr ⟨⟨ys, ys[i], q, by simp [hlt]⟩, Pw (i + 1), fun H' p' => ⟨ys.length - (i + 1), by omega, rfl, hlt, p'⟩, fun x H' y => ?_⟩
    obtain ⟨e, y⟩ := y
    subst e
    exact hs i x _ (y ys q) p
  · have e : i = ys.length := by omega
    subst e
    exact .inl ⟨⟨ys, q, Nat.le_refl _⟩, hd H p⟩
/-- the outer for -/
theorem out_list {K : PySem.W.Frag} {a : Addr} {xs : List V} {vs : List Nat} {σ : L2.St} {H1 : Hp} {D : Addr} {Qd : Hp → Prop} {B : V → Hp → (Hp → Prop) → Prop} (Pv : Nat → Hp → Prop) (h0 : Pv 0 (upd H1 D (.lst []))) (hl : ∀ i H, i ≤ xs.length → Pv i H → SqL K H a xs)
    (hs : ∀ i x H, xs[i]? = some x → Pv i H → B x H (Pv (i + 1))) (hd : ∀ H, Pv xs.length H → Qd H) :
    ∃ W : Nat → Nat → Hp → Prop, (∃ m, W 0 m (upd H1 D (.lst []))) ∧ ∀ i m H, W i m H →
      ((Itl K a).stop i H ∧ Qd H) ∨ ((Itl K a).go i H ∧ ∃ Nx : Hp → Prop, (∀ H', Nx H' → ∃ m', m' < m ∧ W (i + 1) m' H') ∧ ∀ x H', (Itl K a).yld i H x H' → B x H' Nx) := by
  refine ⟨fun i m H => m = xs.length - i ∧ i ≤ xs.length ∧ Pv i H, ⟨xs.length, by simp, Nat.zero_le _, h0⟩, ?_⟩
  rintro i m H ⟨rfl, hi, p⟩
  have q := hl i H hi p
  by_cases hlt : i < xs.length
  · refine .inr ⟨⟨xs, xs[i], q, by simp [hlt]⟩, Pv (i + 1), fun H' p' => ⟨xs.length - (i + 1), by omega, rfl, hlt, p'⟩, fun x H' y => ?_⟩
    obtain ⟨e, y⟩ := y
    subst e
    exact hs i x _ (y xs q) p
  · have e : i = xs.length := by omega
    subst e
    exact .inl ⟨⟨xs, q, Nat.le_refl _⟩, hd H p⟩
end Rn
namespace Rn
open PySem PySem.Spec PyProof.Rows L2
abbrev N0 : Hp := fun _ => none
theorem flat_app : ∀ {As Bs : List Lay}, (∀ L ∈ As, L.ok = true) → (∀ L ∈ Bs, L.ok = true) → flatL (As ++ Bs) = nestL (flatL As) (flatL Bs)
  | [], Bs, _, _ => by
    show flatL Bs = nestL [] (flatL Bs)
    rw [nil_nestL]
  | A :: As, Bs, h, h2 => by
    have h3 : ∀ L ∈ A :: (As ++ Bs), L.ok = true := fun L hL => by
      rcases List.mem_cons.mp hL with e | e
      · exact h L (e ▸ List.mem_cons_self)
      · rcases List.mem_append.mp e with z | z
        · exact h L (List.mem_cons_of_mem _ z)
        · exact h2 L z
    show flatL (A :: (As ++ Bs)) = _
    rw [flatL_cons h3, flatL_cons h, flat_app (fun L hL => h L (List.mem_cons_of_mem _ hL)) h2, nestL_assoc]
def sameC : Lay → Lay → Bool
  | .con w _, .con v _ => decide (w = v)
  | _, _ => false
theorem NestV.swap {H0 G : Hp} {p t : Addr} {us : List V} {u : V} {A : List Lay} {B C : Lay} (h : NestV H0 G p (us ++ [u]) (A ++ [B])) (hx : LayAt G (.ref t) C) (ne : t ≠ p) (fr : H0 t = none) :
    NestV H0 (upd G p (.lst (us ++ [.ref t]))) p (us ++ [.ref t]) (A ++ [C]) := by
  obtain ⟨h1, h2, h3, h4⟩ := h
  have hl : us.length = A.length := by
    rw [List.length_append, List.length_append] at h2
    exact Nat.succ.inj h2
  refine ⟨upd_same, by rw [List.length_append, List.length_append, hl]; rfl, fun i v M a b => ?_, fun y hy => ?_⟩
  · by_cases hi : i < us.length
    · rw [List.getElem?_append_left hi] at a
      rw [List.getElem?_append_left (by omega)] at b
      exact (h3 i v M (by rw [List.getElem?_append_left hi]; exact a) (by rw [List.getElem?_append_left (by omega)]; exact b)).keep fun y e => (h4 y (List.mem_append_left _ (e ▸ List.mem_of_getElem? a))).1
    · rw [List.getElem?_append_right (by omega)] at a
      rw [List.getElem?_append_right (by omega), ← hl] at b
      generalize i - us.length = k at *
      cases k with
      | zero =>
        cases a
        cases b
        exact hx.keep fun y e => by cases e; exact ne
      | succ k => cases a
  · rcases List.mem_append.mp hy with z | z
    · exact h4 y (List.mem_append_left _ z)
    · have := List.mem_singleton.mp z
      cases this
      exact ⟨ne, fr⟩
theorem ixN_last {n : Nat} (h : 0 < n) : ixN n (-1) = some (n - 1) := by
  unfold ixN
  rw [if_neg (by decide)]
  first
    | (rw [if_pos (by omega)]; congr 1; omega)
    | (simp; omega)
theorem set_last {α : Type} (us : List α) (u x : α) : (us ++ [u]).set ((us ++ [u]).length - 1) x = us ++ [x] := by
  rw [List.length_append, List.length_singleton, Nat.add_sub_cancel, List.set_append_right _ _ (Nat.le_refl _), Nat.sub_self]
  rfl
end Rn

set_option Elab.async false
set_option linter.all false
set_option maxRecDepth 100000
set_option maxHeartbeats 4000000
namespace Rn
open PySem PySem.Spec PyProof.Rows L2
section
variable {X : Cx}
theorem op_isB : OpR X (compareOp .Is) (fun x y H Q => ∃ a b : Bool, x = .bl a ∧ y = .bl b ∧ Q (.bl (decide (a = b))) H) := by
  intro pins s σ H x y v u Q I rx ry h
  obtain ⟨a, b, rfl, rfl, q⟩ := h
  cases rx
  cases ry
  refine wpAny_is_plain rfl (fin_bl I q ?_)
  cases a <;> cases b <;> rfl
/-- o[lo:hi] = a list -/
def gSlc (to tl th : TE) : TG := fun v σ H Q => to σ H fun x H1 => tPart tl σ H1 fun l H2 => tPart th σ H2 fun u H3 => ∃ (a b : Addr) (xs ys : List V) (i j : Nat), x = .ref a ∧ v = .ref b ∧ l = some (i : Int) ∧ u = some (j : Int) ∧ H3 a = some (.lst xs) ∧ H3 b = some (.lst ys) ∧ a ≠ b ∧
  i ≤ j ∧ j ≤ xs.length ∧ xs.length + ys.length ≤ sizeLine ∧ Q σ (upd H3 a (.lst (xs.take i ++ ys ++ xs.drop j)))
theorem pg_slc {o lo hi : Expr} {to tl th : TE} {p2 pos : Pos} (ho : PE X o to) (hl : PE X lo tl) (hh : PE X hi th)
    (ha : ∀ v, assign (.Subscript o (.Slice (some lo) (some hi) none p2) pos) X.env v = (do
      let ov ← holding [v] (eval o X.env)
      let iv ← holding [v, ov] (eval (.Slice (some lo) (some hi) none p2) X.env)
      standAt pos
      holding [v, ov, iv] (setItem ov iv v)
      release [iv, v, ov] []) := by intro _; rfl) : PG X (.Subscript o (.Slice (some lo) (some hi) none p2) pos) (gSlc to tl th) := by
  refine ⟨fun pins s σ H v u Q I r h => ?_⟩
  rw [ha]
  refine wpAny_bind (wpAny_holding (thn (ho.run pins s σ H _ I h) fun ov s1 z1 => ?_))
  obtain ⟨x, H1, I1, r1, q1⟩ := z1
  refine wpAny_bind (wpAny_holding (wpAny_Slice (thn ((po_some hl).run pins s1 σ H1 _ I1 q1) fun vl s2 z2 => ?_)))
  obtain ⟨l, H2, I2, pl, q2⟩ := z2
  refine thn ((po_some hh).run pins s2 σ H2 _ I2 q2) fun vu s3 z3 => ?_
  obtain ⟨w, H3, I3, pu, q3⟩ := z3
  rw [evalPart_none]
  refine wpAny_pure ?_
  obtain ⟨a, b, xs, ys, i, j, rfl, rfl, rfl, rfl, hH, hB, hne, hij, hj, hz, q⟩ := q3
  have I4 : Inv X pins σ H3 { s3 with heap := s3.heap.push { cls := .type "slice", data := .fields #[vl, vu, .none] } } := I3.kept (t' := s3.toks) fun b ob q => Heap.get?_push_of_some _ q
  cases r1
  cases r
  cases pl with
  | int _ t1 =>
  cases pu with
  | int _ t2 =>
  refine wpAny_bind (wpAny_standAt (wpAny_bind (wpAny_holding (set_slice I4 hH hB hne (Heap.IsSliceOf.new ..) ⟨t1, rfl⟩ ⟨t2, rfl⟩ (by omega) (by omega) (by omega) hz fun s' I' => ?_))))
  exact wpAny_release ⟨σ, _, I', q⟩
end
theorem attOf_cons (L : Lay) (Ls : List Lay) : attOf (L :: Ls) = L.cnt * attOf Ls := by
  have key : ∀ (Ls : List Lay) (a : Int), Ls.foldl (fun a L => a * L.cnt) a = a * attOf Ls := by
    intro Ls
    induction Ls with
    | nil => intro a; show a = a * 1; omega
    | cons L Ls ih =>
      intro a
      have h1 := ih (a * L.cnt)
      have h2 := ih (1 * L.cnt)
      show Ls.foldl (fun a L => a * L.cnt) (a * L.cnt) = a * Ls.foldl (fun a L => a * L.cnt) (1 * L.cnt)
      rw [h1, h2, Int.one_mul, Int.mul_assoc]
  have := key Ls (1 * L.cnt)
  rw [Int.one_mul] at this
  show Ls.foldl (fun a L => a * L.cnt) (1 * L.cnt) = _
  rw [Int.one_mul]
  exact this
theorem attOf_app : ∀ (As Bs : List Lay), attOf (As ++ Bs) = attOf As * attOf Bs
  | [], Bs => by show attOf Bs = 1 * attOf Bs; omega
  | A :: As, Bs => by rw [List.cons_append, attOf_cons, attOf_cons, attOf_app As Bs, Int.mul_assoc]
theorem attOf_rev : ∀ (As : List Lay), attOf As.reverse = attOf As
  | [] => rfl
  | A :: As => by
    rw [List.reverse_cons, attOf_snoc, attOf_rev As, attOf_cons, Int.mul_comm]
def layB : Lay → Lay → Bool
  | .pol ns, .pol ms => decide (ns = ms)
  | .con w n, .con v m => decide (w = v) && decide (n = m)
  | _, _ => false
theorem layB_iff {L M : Lay} : layB L M = true ↔ L = M := by
  cases L with
  | pol ns =>
    cases M with
    | pol ms =>
      show decide (ns = ms) = true ↔ _
      rw [decide_eq_true_eq]
      exact ⟨fun z => by rw [z], fun z => by injection z⟩
    | con w n => exact ⟨fun z => (by cases z), fun z => (by cases z)⟩
  | con w n =>
    cases M with
    | pol ms => exact ⟨fun z => (by cases z), fun z => (by cases z)⟩
    | con v m =>
      show (decide (w = v) && decide (n = m)) = true ↔ _
      rw [Bool.and_eq_true, decide_eq_true_eq, decide_eq_true_eq]
      exact ⟨fun ⟨h1, h2⟩ => by rw [h1, h2], fun z => by injection z with a b; exact ⟨a, b⟩⟩
def laysB : List Lay → List Lay → Bool
  | [], [] => true
  | L :: Ls, M :: Ms => layB L M && laysB Ls Ms
  | _, _ => false
theorem laysB_iff : ∀ {Ls Ms : List Lay}, laysB Ls Ms = true ↔ Ls = Ms
  | [], [] => ⟨fun _ => rfl, fun _ => rfl⟩
  | [], _ :: _ => ⟨fun z => (by cases z), fun z => (by cases z)⟩
  | _ :: _, [] => ⟨fun z => (by cases z), fun z => (by cases z)⟩
  | L :: Ls, M :: Ms => by
    show (layB L M && laysB Ls Ms) = true ↔ _
    rw [Bool.and_eq_true, layB_iff, laysB_iff]
    exact ⟨fun ⟨h1, h2⟩ => by rw [h1, h2], fun z => by injection z with a b; exact ⟨a, b⟩⟩
theorem eqv_dat (L M : Lay) : PyData.eqv L.dat M.dat = layB L M := by
  cases L with
  | pol ns =>
    cases M with
    | pol ms =>
      show PyData.eqv (dInts ns) (dInts ms) = decide (ns = ms)
      exact eqv_ints ns ms
    | con w n =>
      show PyData.eqv (.list _) (.tuple _) = false
      simp [PyData.eqv]
  | con w n =>
    cases M with
    | pol ms =>
      show PyData.eqv (.tuple _) (.list _) = false
      simp [PyData.eqv]
    | con v m =>
      show PyData.eqv (.tuple [.int w, .int n]) (.tuple [.int v, .int m]) = (decide (w = v) && decide (n = m))
      simp only [PyData.eqv, PyData.eqvAll]
      by_cases h1 : w = v <;> by_cases h2 : n = m <;> simp [h1, h2]
theorem eqv_lays : ∀ (Ls Ms : List Lay), PyData.eqv (.list (Ls.map Lay.dat)) (.list (Ms.map Lay.dat)) = laysB Ls Ms := by
  have key : ∀ (Ls Ms : List Lay), PyData.eqvAll (Ls.map Lay.dat) (Ms.map Lay.dat) = laysB Ls Ms := by
    intro Ls
    induction Ls with
    | nil => intro Ms; cases Ms <;> simp [PyData.eqvAll, laysB]
    | cons L Ls ih =>
      intro Ms
      cases Ms with
      | nil => simp [PyData.eqvAll, laysB]
      | cons M Ms => simp only [List.map_cons, PyData.eqvAll, eqv_dat, ih Ms, laysB]
  intro Ls Ms
  simp only [PyData.eqv]
  exact key Ls Ms
theorem shaped_lays (Ls : List Lay) : SeqAt.shaped (.list (Ls.map Lay.dat)) = true := by
  have key : ∀ Ls : List Lay, PyData.canLayAll0 (Ls.map Lay.dat) = true ∧ PyData.depthAll (Ls.map Lay.dat) ≤ 2 := by
    intro Ls
    induction Ls with
    | nil => exact ⟨by simp [PyData.canLayAll0], by simp [PyData.depthAll]⟩
    | cons L Ls ih =>
      have h : L.dat.canLay0 = true ∧ L.dat.depth ≤ 2 := by
        cases L with
        | pol ns =>
          have := depth_ints ns
          exact ⟨by simp [Lay.dat, dInts, PyData.canLay0, canLay_ints ns], by simp only [Lay.dat, dInts, PyData.depth]; omega⟩
        | con w n => exact ⟨by simp [Lay.dat, PyData.canLay0, PyData.canLayAll0], by simp [Lay.dat, PyData.depth, PyData.depthAll]⟩
      refine ⟨by simp [PyData.canLayAll0, h.1, ih.1], ?_⟩
      simp only [List.map_cons, PyData.depthAll]
      omega
  obtain ⟨h1, h2⟩ := key Ls
  unfold SeqAt.shaped
  rw [Bool.and_eq_true]
  refine ⟨?_, decide_eq_true ?_⟩
  · simpa [PyData.canLay0] using h1
  · simp only [PyData.depth]
    omega
/-! ## layers beside their values -/
def LaysP (H : Hp) (ps : List (V × Lay)) : Prop := ∀ p ∈ ps, LayAt H p.1 p.2
theorem nest_pairs {H : Hp} {q : Addr} {Ls : List Lay} (h : NestAt H q Ls) : ∃ ps : List (V × Lay), H q = some (.lst (ps.map Prod.fst)) ∧ Ls = ps.map Prod.snd ∧ LaysP H ps := by
  obtain ⟨vs, h1, h2, h3⟩ := h
  refine ⟨vs.zip Ls, ?_, ?_, fun p hp => ?_⟩
  · rw [List.map_fst_zip (by omega)]
    exact h1
  · rw [List.map_snd_zip (by omega)]
  · obtain ⟨i, hi, e⟩ := List.getElem_of_mem hp
    rw [List.getElem_zip] at e
    subst e
    rw [List.length_zip] at hi
    exact h3 i _ _ (List.getElem?_eq_getElem (by omega)) (List.getElem?_eq_getElem (by omega))
theorem pairs_nest {H : Hp} {q : Addr} {ps : List (V × Lay)} (h : H q = some (.lst (ps.map Prod.fst))) (hp : LaysP H ps) : NestAt H q (ps.map Prod.snd) := by
  refine ⟨_, h, by rw [List.length_map, List.length_map], fun i v L a b => ?_⟩
  rw [List.getElem?_map] at a b
  cases e : ps[i]? with
  | none => rw [e] at a; cases a
  | some p =>
    rw [e] at a b
    cases a
    cases b
    exact hp p (List.mem_of_getElem? e)
theorem LaysP.same {H H' : Hp} {ps : List (V × Lay)} (h : LaysP H ps) (e : Same H H') : LaysP H' ps := fun p hp => (h p hp).same e
theorem LaysP.ne {H G : Hp} {a r : Addr} {ps : List (V × Lay)} (h : LaysP (hid a a H) ps) (f : H r = none) : ∀ p ∈ ps, ∀ x, p.1 = V.ref x → x ≠ r := fun p hp x e z => by
  have := h p hp
  have key : ∃ o, hid a a H x = some o := by
    revert this
    cases p.2 with
    | pol ns => intro ⟨y, h1, h2⟩; rw [e] at h1; cases h1; exact ⟨_, h2⟩
    | con w n => intro ⟨y, h1, h2⟩; rw [e] at h1; cases h1; exact ⟨_, h2⟩
  obtain ⟨o, ho⟩ := key
  have := (hid_get ho).1
  rw [z, f] at this
  cases this
theorem flat_one {ns : List Int} (h : (Lay.pol ns).ok = true) : flatL [.pol ns] = ns := by
  rw [flatL_cons fun L hL => by rw [List.mem_singleton.mp hL]; exact h]
  exact nestL_nil _
theorem flat_nn {Ls : List Lay} (h : ∀ L ∈ Ls, L.ok = true) : (Lay.pol (flatL Ls)).ok = true := by
  rw [Lay.ok_pol, List.all_eq_true]
  have key : ∀ Ls : List Lay, (∀ L ∈ Ls, L.ok = true) → ∀ x ∈ flatL Ls, 0 ≤ x := by
    intro Ls
    induction Ls with
    | nil => intro _ x hx; cases hx
    | cons L Ls ih =>
      intro h x hx
      rw [flatL_cons h] at hx
      rcases nestL_mem hx with z | z
      · have ho := h L List.mem_cons_self
        cases L with
        | pol ns =>
          rw [Lay.ok_pol, List.all_eq_true] at ho
          exact of_decide_eq_true (ho x z)
        | con w n =>
          rw [Lay.ok_con, Bool.and_eq_true] at ho
          rw [(List.mem_replicate.mp (show x ∈ List.replicate (n - 1).toNat w from z)).2]
          exact of_decide_eq_true ho.1
      · exact ih (fun M hM => h M (List.mem_cons_of_mem _ hM)) x z
  exact fun x hx => decide_eq_true (key Ls h x hx)
theorem nf_snoc {acc : List Lay} {L : Lay} (h : NF acc) (hL : L.nf) (hn : ∀ A w n v m, acc = A ++ [.con w n] → L = .con v m → w ≠ v) : NF (acc ++ [L]) := by
  rcases push_cases acc L with ⟨A, w, n, m, rfl, rfl, _⟩ | ⟨e, _⟩
  · exact absurd rfl (hn A w n w m rfl rfl)
  · rw [← e]
    exact (push_ok h hL).1
def Small (ps : List (V × Lay)) : Prop := ∀ x ∈ ps, x.2.cnt ≤ 29 ∧ ∀ w n, x.2 = .con w n → n ≤ 12
end Rn

set_option Elab.async false
set_option linter.all false
set_option maxRecDepth 100000
set_option maxHeartbeats 4000000
namespace Rn
open PySem PySem.Spec PyProof.Rows L2 TL
/-! # what is written tells the data -/
def dg (x : Nat) : Prop := 48 ≤ x ∧ x ≤ 57
theorem dig_split : ∀ (ds es : List Nat) {c d : Nat} {r s : List Nat}, (∀ x ∈ ds, dg x) → (∀ x ∈ es, dg x) → ¬ dg c → ¬ dg d → ds ++ c :: r = es ++ d :: s → ds = es ∧ c = d ∧ r = s
  | [], [], c, d, r, s, _, _, _, _, h => by injection h with h1 h2; exact ⟨rfl, h1, h2⟩
  | [], e :: es, c, d, r, s, _, he, hc, _, h => by injection h with h1 _; exact absurd (h1 ▸ he e List.mem_cons_self) hc
  | a :: ds, [], c, d, r, s, hd, _, _, hd', h => by injection h with h1 _; exact absurd (h1 ▸ hd a List.mem_cons_self) hd'
  | a :: ds, e :: es, c, d, r, s, hd, he, hc, hd', h => by
    injection h with h1 h2
    obtain ⟨z1, z2, z3⟩ := dig_split ds es (fun x hx => hd x (List.mem_cons_of_mem _ hx)) (fun x hx => he x (List.mem_cons_of_mem _ hx)) hc hd' h2
    exact ⟨by rw [h1, z1], z2, z3⟩
theorem num_dg (n : Nat) : ∀ x ∈ numL n, dg x := fun x hx => by
  unfold dg
  by_cases h : x < 48 ∨ 57 < x
  · exact absurd hx (numL_free h)
  · omega
theorem num_split {m n c d : Nat} {r s : List Nat} (hc : ¬ dg c) (hd : ¬ dg d) (h : numL m ++ c :: r = numL n ++ d :: s) : m = n ∧ c = d ∧ r = s := by
  obtain ⟨z1, z2, z3⟩ := dig_split _ _ (num_dg m) (num_dg n) hc hd h
  exact ⟨numL_inj z1, z2, z3⟩
theorem tl_int {i : Int} (h : 0 ≤ i) : tl (PyData.shown (.int i)) = numL i.toNat := by
  obtain ⟨n, rfl⟩ : ∃ n : Nat, i = (n : Int) := ⟨i.toNat, by omega⟩
  rw [show ((n : Int)).toNat = n from Int.toNat_natCast n, ← tl_num n]
  simp only [PyData.shown]
theorem tl_list (xs : List PyData) : tl (PyData.shown (.list xs)) = 91 :: (TL.joinL [44, 32] (xs.map fun d => tl (PyData.shown d)) ++ [93]) := by
  simp only [PyData.shown]
  rw [listText_eq_join, tl_append, tl_append, tl_join, shownAll_eq_map, List.map_map]
  rfl
theorem tl_pair (a b : PyData) : tl (PyData.shown (.tuple [a, b])) = 40 :: (tl (PyData.shown a) ++ 44 :: 32 :: (tl (PyData.shown b) ++ [41])) := by
  simp only [PyData.shown, PyData.shownAll, tupleText]
  rw [tl_append, tl_append, tl_join]
  show [40] ++ (tl a.shown ++ ([44, 32] ++ tl b.shown)) ++ [41] = _
  simp only [List.cons_append, List.nil_append, List.append_assoc]
def jI (ns : List Int) : List Nat := TL.joinL [44, 32] (ns.map fun n => numL n.toNat)
def rI_ (ns : List Int) (s : List Nat) : List Nat := match ns with
  | [] => 93 :: s
  | n :: ns => 44 :: 32 :: (jI (n :: ns) ++ 93 :: s)
theorem jI_cons (n : Int) : ∀ (ns : List Int) (s : List Nat), jI (n :: ns) ++ 93 :: s = numL n.toNat ++ rI_ ns s
  | [], s => rfl
  | m :: ns, s => by
    show (numL n.toNat ++ ([44, 32] ++ jI (m :: ns))) ++ 93 :: s = numL n.toNat ++ (44 :: 32 :: (jI (m :: ns) ++ 93 :: s))
    simp only [List.cons_append, List.nil_append, List.append_assoc]
theorem n44 : ¬ dg 44 := by unfold dg; omega
theorem n93 : ¬ dg 93 := by unfold dg; omega
theorem n41 : ¬ dg 41 := by unfold dg; omega
theorem ints_split : ∀ (ns ms : List Int) {r s : List Nat}, (∀ x ∈ ns, 0 ≤ x) → (∀ x ∈ ms, 0 ≤ x) → jI ns ++ 93 :: r = jI ms ++ 93 :: s → ns = ms ∧ r = s
  | [], [], r, s, _, _, h => by
    have h : 93 :: r = 93 :: s := h
    injection h with _ h
    exact ⟨rfl, h⟩
  | [], m :: ms, r, s, _, hm, h => by
    rw [jI_cons] at h
    have h : [] ++ 93 :: r = numL m.toNat ++ rI_ ms s := h
    exfalso
    cases ms with
    | nil => exact numL_ne m.toNat (dig_split _ _ (fun x (hx : x ∈ ([] : List Nat)) => by cases hx) (num_dg _) n93 n93 h).1.symm
    | cons m' ms => exact numL_ne m.toNat (dig_split _ _ (fun x (hx : x ∈ ([] : List Nat)) => by cases hx) (num_dg _) n93 n44 h).1.symm
  | n :: ns, [], r, s, _, _, h => by
    rw [jI_cons] at h
    have h : numL n.toNat ++ rI_ ns r = [] ++ 93 :: s := h
    exfalso
    cases ns with
    | nil => exact numL_ne n.toNat (dig_split _ _ (num_dg _) (fun x (hx : x ∈ ([] : List Nat)) => by cases hx) n93 n93 h).1
    | cons m' ms => exact numL_ne n.toNat (dig_split _ _ (num_dg _) (fun x (hx : x ∈ ([] : List Nat)) => by cases hx) n44 n93 h).1
  | n :: ns, m :: ms, r, s, hn, hm, h => by
    rw [jI_cons, jI_cons] at h
    have n0 := hn n List.mem_cons_self
    have m0 := hm m List.mem_cons_self
    cases ns with
    | nil =>
      cases ms with
      | nil =>
        obtain ⟨z1, _, z3⟩ := num_split n93 n93 h
        exact ⟨by rw [show n = m by omega], z3⟩
      | cons m' ms => exact absurd (num_split n93 n44 h).2.1 (by decide)
    | cons n' ns =>
      cases ms with
      | nil => exact absurd (num_split n44 n93 h).2.1 (by decide)
      | cons m' ms =>
        obtain ⟨z1, _, z3⟩ := num_split n44 n44 h
        injection z3 with _ z3
        obtain ⟨q1, q2⟩ := ints_split (n' :: ns) (m' :: ms) (fun x hx => hn x (List.mem_cons_of_mem _ hx)) (fun x hx => hm x (List.mem_cons_of_mem _ hx)) z3
        exact ⟨by rw [show n = m by omega, q1], q2⟩
/-- the signs of a layer -/
def lt_ (L : Lay) : List Nat := tl (PyData.shown L.dat)
theorem lt_pol {ns : List Int} (h : (Lay.pol ns).ok = true) : lt_ (.pol ns) = 91 :: (jI ns ++ [93]) := by
  unfold lt_ jI
  show tl (PyData.shown (.list (ns.map PyData.int))) = _
  rw [tl_list, List.map_map]
  have hn : ∀ x ∈ ns, 0 ≤ x := fun x hx => by
    rw [Lay.ok_pol, List.all_eq_true] at h
    exact of_decide_eq_true (h x hx)
  have e : (ns.map ((fun d => tl (PyData.shown d)) ∘ PyData.int)) = ns.map fun n => numL n.toNat := List.map_congr_left fun x hx => tl_int (hn x hx)
  rw [e]
theorem lt_con {w n : Int} (h : (Lay.con w n).ok = true) : lt_ (.con w n) = 40 :: (numL w.toNat ++ 44 :: 32 :: (numL n.toNat ++ [41])) := by
  rw [Lay.ok_con, Bool.and_eq_true] at h
  have w0 := of_decide_eq_true h.1
  have n0 := of_decide_eq_true h.2
  unfold lt_
  show tl (PyData.shown (.tuple [.int w, .int n])) = _
  rw [tl_pair, tl_int w0, tl_int (by omega)]
theorem lay_split {L M : Lay} {r s : List Nat} (hL : L.ok = true) (hM : M.ok = true) (h : lt_ L ++ r = lt_ M ++ s) : L = M ∧ r = s := by
  cases L with
  | pol ns =>
    cases M with
    | pol ms =>
      rw [lt_pol hL, lt_pol hM] at h
      simp only [List.cons_append, List.append_assoc, List.nil_append] at h
      injection h with _ h
      rw [Lay.ok_pol, List.all_eq_true] at hL hM
      obtain ⟨z1, z2⟩ := ints_split ns ms (fun x hx => of_decide_eq_true (hL x hx)) (fun x hx => of_decide_eq_true (hM x hx)) h
      exact ⟨by rw [z1], z2⟩
    | con w n =>
      rw [lt_pol hL, lt_con hM] at h
      simp only [List.cons_append] at h
      injection h with h _
      exact absurd h (by decide)
  | con v k =>
    cases M with
    | pol ms =>
      rw [lt_con hL, lt_pol hM] at h
      simp only [List.cons_append] at h
      injection h with h _
      exact absurd h (by decide)
    | con w n =>
      rw [lt_con hL, lt_con hM] at h
      simp only [List.cons_append, List.append_assoc, List.nil_append] at h
      injection h with _ h
      obtain ⟨z1, _, z2⟩ := num_split n44 n44 h
      injection z2 with _ z2
      obtain ⟨z3, _, z4⟩ := num_split n41 n41 z2
      rw [Lay.ok_con, Bool.and_eq_true] at hL hM
      have a1 := of_decide_eq_true hL.1
      have a2 := of_decide_eq_true hL.2
      have b1 := of_decide_eq_true hM.1
      have b2 := of_decide_eq_true hM.2
      exact ⟨by rw [show v = w by omega, show k = n by omega], z4⟩
theorem lt_head {L : Lay} (h : L.ok = true) : ∃ c r, lt_ L = c :: r ∧ c ≠ 93 := by
  cases L with
  | pol ns => exact ⟨_, _, lt_pol h, by decide⟩
  | con w n => exact ⟨_, _, lt_con h, by decide⟩
def jL (Ls : List Lay) : List Nat := TL.joinL [44, 32] (Ls.map lt_)
def rL (Ls : List Lay) (s : List Nat) : List Nat := match Ls with
  | [] => 93 :: s
  | L :: Ls => 44 :: 32 :: (jL (L :: Ls) ++ 93 :: s)
theorem jL_cons (L : Lay) : ∀ (Ls : List Lay) (s : List Nat), jL (L :: Ls) ++ 93 :: s = lt_ L ++ rL Ls s
  | [], s => rfl
  | M :: Ls, s => by
    show (lt_ L ++ ([44, 32] ++ jL (M :: Ls))) ++ 93 :: s = lt_ L ++ (44 :: 32 :: (jL (M :: Ls) ++ 93 :: s))
    simp only [List.cons_append, List.nil_append, List.append_assoc]
theorem lays_split : ∀ (Ls Ms : List Lay) {r s : List Nat}, (∀ L ∈ Ls, L.ok = true) → (∀ L ∈ Ms, L.ok = true) → jL Ls ++ 93 :: r = jL Ms ++ 93 :: s → Ls = Ms
  | [], [], _, _, _, _, _ => rfl
  | [], M :: Ms, r, s, _, hm, h => by
    rw [jL_cons] at h
    obtain ⟨c, q, e, ne⟩ := lt_head (hm M List.mem_cons_self)
    rw [e] at h
    have h : 93 :: r = c :: (q ++ rL Ms s) := h
    injection h with h _
    exact absurd h.symm ne
  | L :: Ls, [], r, s, hl, _, h => by
    rw [jL_cons] at h
    obtain ⟨c, q, e, ne⟩ := lt_head (hl L List.mem_cons_self)
    rw [e] at h
    have h : c :: (q ++ rL Ls r) = 93 :: s := h
    injection h with h _
    exact absurd h ne
  | L :: Ls, M :: Ms, r, s, hl, hm, h => by
    rw [jL_cons, jL_cons] at h
    obtain ⟨z1, z2⟩ := lay_split (hl L List.mem_cons_self) (hm M List.mem_cons_self) h
    subst z1
    cases Ls with
    | nil =>
      cases Ms with
      | nil => rfl
      | cons M' Ms =>
        have z2 : 93 :: r = 44 :: 32 :: (jL (M' :: Ms) ++ 93 :: s) := z2
        injection z2 with z _
        exact absurd z (by decide)
    | cons L' Ls =>
      cases Ms with
      | nil =>
        have z2 : 44 :: 32 :: (jL (L' :: Ls) ++ 93 :: r) = 93 :: s := z2
        injection z2 with z _
        exact absurd z (by decide)
      | cons M' Ms =>
        have z2 : 44 :: 32 :: (jL (L' :: Ls) ++ 93 :: r) = 44 :: 32 :: (jL (M' :: Ms) ++ 93 :: s) := z2
        injection z2 with _ z2
        injection z2 with _ z2
        rw [lays_split (L' :: Ls) (M' :: Ms) (fun x hx => hl x (List.mem_cons_of_mem _ hx)) (fun x hx => hm x (List.mem_cons_of_mem _ hx)) z2]
theorem shown_inj {Ls Ms : List Lay} (hl : ∀ L ∈ Ls, L.ok = true) (hm : ∀ L ∈ Ms, L.ok = true) (h : PyData.shown (.list (Ls.map Lay.dat)) = PyData.shown (.list (Ms.map Lay.dat))) : Ls = Ms := by
  have h := congrArg tl h
  rw [tl_list, tl_list, List.map_map, List.map_map] at h
  injection h with _ h
  exact lays_split Ls Ms (r := []) (s := []) hl hm h
end Rn

set_option Elab.async false
set_option linter.all false
set_option maxRecDepth 100000
set_option maxHeartbeats 4000000
namespace Rn
open PySem PySem.Spec PyProof.Rows L2
/-! ## calls of a def that shows lists, where nothing is being shown -/
structure FnH (P : Program) (w : World) (K : PySem.W.Frag) (mg : Str → Option Value) (base : Heap) (k : Nat) (f : Addr) (fd : FuncData) (ps : List Str) (sp : Sp) : Prop where
  len : ∀ vs H Q E, sp vs H Q E → vs.length = ps.length
  run : FnG P w K mg base k f fd ps sp
theorem FnH.mono {P : Program} {w : World} {K : PySem.W.Frag} {mg : Str → Option Value} {base : Heap} {j k : Nat} {f : Addr} {fd : FuncData} {ps : List Str} {sp : Sp} (F : FnH P w K mg base j f fd ps sp) (h : j ≤ k) : FnH P w K mg base k f fd ps sp :=
  ⟨F.len, fun A outer s H args us vs Q E gu hr => F.run A outer s H args us vs Q E gu (hr.mono h)⟩
section
variable {X : Cx} {k : Nat} {f : Addr} {fd : FuncData} {ps : List Str} {sp : Sp} {E : XK} {x : Str} {e : Expr} {es : List Expr} {t : TA} {p pos : Pos}
theorem run_fnG {pins : List (Addr × Obj)} {σ : L2.St} {H : Hp} {s : Shared} {Q : VK} {us : List Value} {vs : List V} (F : FnH X.prog X.w X.K X.mg X.base k f fd ps sp) (gu : X.A.guards = some []) (hr : Room k X.A) (hb : Binds X.K fd ps []) (hx : Passes CX0 X E)
    (I : Inv X pins σ H s) (r : Vals vs us) (h : sp (vs ++ []) H Q E) : wpAny (model X.prog X.w) X.A (call (.ref f) us) (EP X pins σ Q) X.xe s := by
  have r2 : Vals (vs ++ []) (us ++ []) := r.append .nil
  have hl : (us ++ []).length = ps.length := by rw [← r2.length]; exact F.len _ _ _ _ h
  refine wpAny_call (codeAny_mono (F.run X.A X.stack s H ⟨us, []⟩ (us ++ []) (vs ++ []) Q E gu hr I.env0 (hb s us I.kIn hl) r2 (F.len _ _ _ _ h) h) fun r s' hq => ?_)
  cases r with
  | error e => exact hx pins σ H s e s' I hq
  | ok fl =>
    cases fl with
    | ret u => exact I.after hq
    | next => exact False.elim hq
    | brk => exact False.elim hq
    | cont => exact False.elim hq
theorem pe_callG (F : FnH X.prog X.w X.K X.mg X.base k f fd ps sp) (gu : X.A.guards = some []) (hr : Room k X.A) (hg : Gl X x) (hm : X.mg x = some (.ref f)) (hk : PySem.W.keepIn X.K (.ref f) = true) (hb : Binds X.K fd ps []) (hx : Passes CX0 X E)
    (ha : PA X (e :: es) t) (hdb : (x == ("__debug__" : Str)) = false := by decide) (he : starEach (e :: es) X.env = (false, eval e X.env) :: starEach es X.env := by rfl) (hpl : (backTo pos (starEach es X.env)).any (·.1) = false := by rfl) :
    PE X (.Call (.Name x p) (e :: es) [] pos) (tCall sp [] E t) := by
  refine ⟨fun pins s σ H Q I h => ?_⟩
  refine wpAny_Call_Name_kw (ld_glob I hg hm ?_ hdb)
  refine PySem.W.callWith_K (h₀ := X.base) I.ok.mod.kin hk (thn (ha.run pos pins s σ H _ I h) fun us s1 ⟨vs, H1, I1, r, q⟩ => ⟨I1.kIn, ?_⟩) he hpl
  exact run_fnG F gu hr hb hx I1 r q
end
end Rn
namespace Rn
open PySem PySem.Spec PyProof.Rows L2
/-! ## repr of None, a bool, an int -/
def rReprS : List V → Hp → VK → Prop := fun xs H Q => (xs = [.non] ∧ Q (.str "None") H) ∨ (∃ b, xs = [.bl b] ∧ Q (.str (if b then "True" else "False")) H) ∨ (∃ i : Int, xs = [.int i] ∧ i.natAbs.log2 < 1920 ∧ Q (.str (toString i)) H)
section
variable {X : Cx}
theorem call_reprS : CallR X (.builtin "repr") rReprS := by
  intro pins s σ H xs us Q I r h
  rcases h with ⟨rfl, q⟩ | ⟨b, rfl, q⟩ | ⟨i, rfl, hi, q⟩
  · cases r with
    | cons r1 r2 =>
      cases r2
      cases r1
      exact PySem.P.repr_of_none ⟨.str _, H, I.tok _, ⟨_, rfl⟩, q⟩
  · cases r with
    | cons r1 r2 =>
      cases r2
      cases r1
      exact PySem.P.repr_of_bool ⟨.str _, H, I.tok _, ⟨_, rfl⟩, q⟩
  · cases r with
    | cons r1 r2 =>
      cases r2
      obtain ⟨t, rfl⟩ := r1
      exact PySem.P.repr_of_int hi ⟨.str _, H, I.tok _, ⟨_, rfl⟩, q⟩
end
end Rn

set_option Elab.async false
set_option linter.all false
set_option maxRecDepth 100000
set_option maxHeartbeats 4000000
namespace Rn
open PySem PySem.Spec PyProof.Rows L2 TL CwR PySem.StrLaws
/-! # texts -/
section
variable {X : Cx}
theorem mul_one_ (a : Str) : Txt.mul a 1 = a := by
  unfold Txt.mul
  rw [if_neg (by decide), if_pos (by simp)]
theorem mul_zero_ (a : Str) : Txt.mul a 0 = Str.empty := by
  unfold Txt.mul
  rw [if_pos (by decide)]
/-- a text as often as a truth value says -/
theorem op_mulS : OpR X (binaryOp .Mult) (fun x y H Q => ∃ (a : Str) (b : Bool), x = .str a ∧ y = .int (if b then 1 else 0) ∧ Q (.str (if b then a else Str.empty)) H) := by
  intro pins s σ H x y v u Q I rx ry h
  obtain ⟨a, b, rfl, rfl, q⟩ := h
  obtain ⟨t, rfl⟩ := rx
  obtain ⟨t', rfl⟩ := ry
  cases b with
  | true =>
    refine PySem.SB.mul (n := 1) ⟨by decide, fun _ z => by simp at z, fun _ z => by simp at z⟩ fun t' k => ⟨.str (Txt.mul a 1), H, I.tok k, ⟨_, rfl⟩, ?_⟩
    rw [mul_one_]
    exact q
  | false =>
    refine PySem.SB.mul (n := 0) ⟨by decide, fun z => absurd (by decide) z, fun z => absurd (by decide) z⟩ fun t' k => ⟨.str (Txt.mul a 0), H, I.tok k, ⟨_, rfl⟩, ?_⟩
    rw [mul_zero_]
    exact q
theorem pst_set {i : Nat} {x : Str} {e : Expr} {te : TE} {pos pos' : Pos} (hN : X.N.Nodup) (hi : X.N[i]? = some x) (hx : Loc X.env.scope x) (he : PET X e te) (hs : swapsWith e (some (.Name x pos')) pos.line X.env = pure false := by rfl)
    (hf : X.fn x = true ∨ X.env.scope.names.lookup x = some .local := by first | exact .inl rfl | exact .inr rfl | assumption) : PST X (.Assign [.Name x pos'] e pos) (tAsg te (gName i)) := by
  intro pins s σ H D h0 I h
  refine wpAny_Assign_Name (thn (he pins s σ H _ h0 I h) fun v s1 ⟨y, H1, I1, r1, q1⟩ => ?_) hs
  exact store_ok I1 hN hi hx r1 (fun s2 I2 => ⟨_, H1, I2, q1⟩) hf
/-- an expression behind whose value a token is out -/
def PEk (X : Cx) (e : Expr) (t : TE) : Prop :=
  ∀ (pins : List (Addr × Obj)) (s : Shared) (σ : L2.St) (H : Hp) (Q : VK), Inv X pins σ H s → t σ H Q → wpAny (model X.prog X.w) X.A (eval e X.env) (fun v s1 => 1 ≤ s1.toks ∧ EP X pins σ Q v s1) X.xe s
theorem pek_str {z : Str} {j : Nat} {pos : Pos} : PEk X (.Constant (.str z) j pos) (tC (.str z)) := fun pins s σ H Q I q =>
  Calls.Constant_str ⟨Nat.succ_le_succ (Nat.zero_le _), .str z, H, I.tok _, ⟨_, rfl⟩, q⟩
theorem pek_opL {op : Operator} {r : R2} {e f : Expr} {te tf : TE} {pos : Pos} (ho : OpR X (binaryOp op) r) (ha : PEk X e te) (hb : PE X f tf) : PEk X (.BinOp e op f pos) (tOp r te tf) := fun pins s σ H Q I q =>
  wpAny_BinOp (wpAny_mono (ha pins s σ H _ I q) (fun v s1 h1 => by
    obtain ⟨k1, x, H1, I1, r1, q1⟩ := h1
    refine wpAny_mono (PySem.wpAny_toks (hb.run pins s1 σ H1 _ I1 q1)) (fun u s2 h2 => ?_) fun _ _ z => z.2
    obtain ⟨k2, y, H2, I2, r2, q2⟩ := h2
    exact wpAny_mono (PySem.wpAny_toks (ho pins s2 σ H2 x y v u Q I2 r1 r2 q2)) (fun _ _ z => ⟨Nat.le_trans k1 (Nat.le_trans k2 z.1), z.2⟩) fun _ _ z => z.2) fun _ _ z => z)
theorem pek_opR {op : Operator} {r : R2} {e f : Expr} {te tf : TE} {pos : Pos} (ho : OpR X (binaryOp op) r) (ha : PE X e te) (hb : PEk X f tf) : PEk X (.BinOp e op f pos) (tOp r te tf) := fun pins s σ H Q I q =>
  wpAny_BinOp (wpAny_mono (ha.run pins s σ H _ I q) (fun v s1 h1 => by
    obtain ⟨x, H1, I1, r1, q1⟩ := h1
    refine wpAny_mono (hb pins s1 σ H1 _ I1 q1) (fun u s2 h2 => ?_) fun _ _ z => z
    obtain ⟨k2, y, H2, I2, r2, q2⟩ := h2
    exact wpAny_mono (PySem.wpAny_toks (ho pins s2 σ H2 x y v u Q I2 r1 r2 q2)) (fun _ _ z => ⟨Nat.le_trans k2 z.1, z.2⟩) fun _ _ z => z.2) fun _ _ z => z)
/-- such a value is stored first: the rest has its token -/
theorem pss_setK {i : Nat} {x : Str} {e : Expr} {te : TE} {rest : List Stmt} {u : TS} {pos pos' : Pos} (hN : X.N.Nodup) (hi : X.N[i]? = some x) (hx : Loc X.env.scope x) (he : PEk X e te) (hr : PSsT X rest u) (hs : swapsWith e (some (.Name x pos')) pos.line X.env = pure false := by rfl)
    (hf : X.fn x = true ∨ X.env.scope.names.lookup x = some .local := by first | exact .inl rfl | exact .inr rfl | assumption) : PSs X (.Assign [.Name x pos'] e pos :: rest) (tSeq (tAsg te (gName i)) u) := ⟨fun pins s σ H D I h =>
  wpAny_execs_cons (wpAny_Assign_Name (wpAny_mono (he pins s σ H _ I h) (fun v s1 h1 => by
    obtain ⟨k1, y, H1, I1, r1, q1⟩ := h1
    refine wpAny_mono (PySem.wpAny_toks (store_ok (Q := fun _ s2 => Inv X pins (σ.set i (some y)) H1 s2) I1 hN hi hx r1 (fun _ I2 => I2) hf)) (fun _ s2 z => ?_) fun _ _ z => z.2
    exact hr pins s2 _ H1 D (Nat.le_trans k1 z.1) z.2 q1) fun _ _ z => z) hs)⟩
end
/-! ## the texts of layers -/
def numsL (ns : List Int) : List (List Nat) := ns.map fun n => numL n.toNat
def showL : Lay → List Nat
  | .pol [] => [45]
  | .pol (n :: ns) => TL.joinL [44] (numsL (n :: ns))
  | .con w n => numL w.toNat ++ 120 :: numL n.toNat
def showN : List Lay → List Nat
  | [] => [110, 111, 110, 101]
  | L :: Ls => TL.joinL [32, 47, 32] ((L :: Ls).map showL)
theorem tl_numI {i : Int} (h : 0 ≤ i) : tl (Str.ofString (toString i)) = numL i.toNat := by
  obtain ⟨n, rfl⟩ : ∃ n : Nat, i = (n : Int) := ⟨i.toNat, by omega⟩
  rw [Int.toNat_natCast]
  exact tl_num n
/-- replace passes over what does not hold the first sign -/
theorem repl_pass {a b : Nat} {z r : List Nat} : ∀ {ds : List Nat}, (∀ x ∈ ds, x ≠ a) → replL [a, b] z (ds ++ r) = ds ++ replL [a, b] z r
  | [], _ => rfl
  | c :: ds, h => by
    have hc := h c List.mem_cons_self
    rw [List.cons_append, replL_miss (fun z => by
      have z' : c :: (ds ++ r).take 1 = [a, b] := z
      injection z' with z1 _
      exact hc z1), repl_pass fun x hx => h x (List.mem_cons_of_mem _ hx)]
    rfl
theorem num44 (n : Nat) : ∀ x ∈ numL n, x ≠ 44 := fun x hx z => by
  have := num_dg n x hx
  unfold dg at this
  omega
theorem repl_nums : ∀ ns : List Int, replL [44, 32] [44] (jI ns) = TL.joinL [44] (numsL ns)
  | [] => replL_nil
  | [n] => by
    show replL [44, 32] [44] (numL n.toNat) = numL n.toNat
    have := repl_pass (a := 44) (b := 32) (z := [44]) (r := []) (num44 n.toNat)
    rw [List.append_nil, replL_nil, List.append_nil] at this
    exact this
  | n :: m :: ns => by
    show replL [44, 32] [44] (numL n.toNat ++ ([44, 32] ++ jI (m :: ns))) = numL n.toNat ++ ([44] ++ TL.joinL [44] (numsL (m :: ns)))
    rw [repl_pass (num44 n.toNat)]
    congr 1
    show replL [44, 32] [44] (44 :: 32 :: jI (m :: ns)) = _
    rw [replL_hit (by simp) rfl]
    show [44] ++ replL [44, 32] [44] (jI (m :: ns)) = _
    rw [repl_nums (m :: ns)]
/-! ## lengths -/
theorem log_small {x b : Nat} (h : x < 2 ^ b) (h0 : 0 < b) : x.log2 < b := PySem.Flt.log2_lt_of h0 h
theorem joinL_len {S : List Nat} {B : Nat} : ∀ {ps : List (List Nat)}, (∀ p ∈ ps, p.length ≤ B) → (TL.joinL S ps).length ≤ ps.length * (B + S.length)
  | [], _ => Nat.zero_le _
  | [p], h => by
    have := h p List.mem_cons_self
    show p.length ≤ 1 * (B + S.length)
    omega
  | p :: q :: r, h => by
    have h1 := h p List.mem_cons_self
    have ih := joinL_len (S := S) (B := B) (ps := q :: r) fun x hx => h x (List.mem_cons_of_mem _ hx)
    show (p ++ (S ++ TL.joinL S (q :: r))).length ≤ _
    rw [List.length_append, List.length_append, List.length_cons, Nat.succ_mul]
    omega
theorem sum_len {B : Nat} : ∀ {ys : List Str}, (∀ y ∈ ys, y.length ≤ B) → (ys.map (·.length)).sum ≤ ys.length * B
  | [], _ => Nat.zero_le _
  | y :: ys, h => by
    have h1 := h y List.mem_cons_self
    have ih := sum_len (B := B) (ys := ys) fun x hx => h x (List.mem_cons_of_mem _ hx)
    rw [List.map_cons, List.sum_cons, List.length_cons, Nat.succ_mul]
    omega
theorem num_len {n : Nat} (h : n < 1000000000000000000000) : (numL n).length ≤ 21 := numL_len (k := 21) (by decide) (by
  have : (10 : Nat) ^ 21 = 1000000000000000000000 := by decide
  omega)
/-- layers whose texts are written here -/
def Txl (L : Lay) : Prop := L.ok = true ∧ match L with
  | .pol ns => ns.length ≤ 400 ∧ ∀ x ∈ ns, x < 1000000000000000000000
  | .con w n => w < 1000000000000000000000 ∧ n < 1000000000000000000000
theorem pol_nn {ns : List Int} (h : (Lay.pol ns).ok = true) : ∀ x ∈ ns, 0 ≤ x := fun x hx => by
  rw [Lay.ok_pol, List.all_eq_true] at h
  exact of_decide_eq_true (h x hx)
theorem con_nn {w n : Int} (h : (Lay.con w n).ok = true) : 0 ≤ w ∧ 1 ≤ n := by
  rw [Lay.ok_con, Bool.and_eq_true] at h
  exact ⟨of_decide_eq_true h.1, of_decide_eq_true h.2⟩
theorem nums_len {ns : List Int} (h : ∀ x ∈ ns, 0 ≤ x ∧ x < 1000000000000000000000) : ∀ p ∈ numsL ns, p.length ≤ 21 := fun p hp => by
  obtain ⟨x, hx, rfl⟩ := List.mem_map.mp hp
  have := h x hx
  exact num_len (by omega)
theorem showL_len {L : Lay} (h : Txl L) : (showL L).length ≤ 9000 := by
  obtain ⟨h0, h1⟩ := h
  cases L with
  | con w n =>
    obtain ⟨a, b⟩ := con_nn h0
    obtain ⟨c, d⟩ := h1
    have e1 := num_len (n := w.toNat) (by omega)
    have e2 := num_len (n := n.toNat) (by omega)
    show (numL w.toNat ++ 120 :: numL n.toNat).length ≤ 9000
    rw [List.length_append, List.length_cons]
    omega
  | pol ns =>
    cases ns with
    | nil => show 1 ≤ 9000; decide
    | cons n ns =>
      have := joinL_len (S := [44]) (B := 21) (nums_len fun x hx => ⟨pol_nn h0 x hx, h1.2 x hx⟩)
      have l : (numsL (n :: ns)).length = (n :: ns).length := List.length_map ..
      have l2 := h1.1
      show (TL.joinL [44] (numsL (n :: ns))).length ≤ 9000
      rw [l] at this
      have e : (n :: ns).length * (21 + [44].length) ≤ 400 * 22 := Nat.mul_le_mul l2 (by decide)
      omega
theorem size_leT {n : Nat} (h : n ≤ 16777216) : n ≤ sizeLine := Nat.le_trans h (by decide)
/-! ## texts put together -/
theorem joinL_snoc {S q : List Nat} : ∀ {ps : List (List Nat)}, ps ≠ [] → TL.joinL S (ps ++ [q]) = TL.joinL S ps ++ (S ++ q)
  | [], h => absurd rfl h
  | [p], _ => rfl
  | p :: r :: rs, _ => by
    show p ++ (S ++ TL.joinL S (r :: rs ++ [q])) = (p ++ (S ++ TL.joinL S (r :: rs))) ++ (S ++ q)
    rw [joinL_snoc (ps := r :: rs) (by simp)]
    simp only [List.append_assoc]
theorem joinL_ne {S : List Nat} : ∀ {ps : List (List Nat)}, ps ≠ [] → (∀ p ∈ ps, p ≠ []) → TL.joinL S ps ≠ []
  | [], h, _ => absurd rfl h
  | [p], _, hp => hp p List.mem_cons_self
  | p :: r :: rs, _, hp => by
    show p ++ (S ++ TL.joinL S (r :: rs)) ≠ []
    intro z
    exact hp p List.mem_cons_self (List.append_eq_nil_iff.mp z).1
theorem showL_ne (L : Lay) : showL L ≠ [] := by
  cases L with
  | con w n =>
    show numL w.toNat ++ 120 :: numL n.toNat ≠ []
    simp
  | pol ns =>
    cases ns with
    | nil => show [45] ≠ []; simp
    | cons n ns =>
      refine joinL_ne (by simp [numsL]) fun p hp => ?_
      obtain ⟨x, _, rfl⟩ := List.mem_map.mp hp
      exact numL_ne _
/-- a text without its ends -/
theorem cut_in {z : Str} {c e : Nat} {m : List Nat} (h : tl z = c :: (m ++ [e])) : tl (cutS z (some 1) (some (-1))) = m := by
  have l : z.length = m.length + 2 := by
    rw [len_tl, h, List.length_cons, List.length_append]
    rfl
  have a : HT.sIx z.length 0 (some 1) = 1 := by
    rw [l]
    unfold HT.sIx
    simp <;> omega
  have b : HT.sIx z.length z.length (some (-1)) = m.length + 1 := by
    rw [l]
    unfold HT.sIx
    simp <;> omega
  unfold cutS
  rw [a, b]
  show ((tl z).drop 1).take (m.length + 1 - 1) = m
  rw [h, List.drop_succ_cons, List.drop_zero, Nat.add_sub_cancel, List.take_left]
theorem jI_eq (ns : List Int) : jI ns = TL.joinL [44, 32] (numsL ns) := rfl
theorem jI_len {ns : List Int} (h : ∀ x ∈ ns, 0 ≤ x ∧ x < 1000000000000000000000) (l : ns.length ≤ 400) : (jI ns).length ≤ 9200 := by
  have := joinL_len (S := [44, 32]) (B := 21) (nums_len h)
  have e1 : (numsL ns).length = ns.length := List.length_map ..
  rw [e1] at this
  have e2 : ns.length * (21 + [44, 32].length) ≤ 400 * 23 := Nat.mul_le_mul l (by decide)
  rw [jI_eq]
  omega
theorem replace_nums {x : Str} {ns : List Int} (h : tl x = jI ns) : tl (Txt.replace x (Str.ofString ", ") (Str.ofString ",")) = TL.joinL [44] (numsL ns) := by
  have := PySem.StrLaws.replace_list (x := x) (y := Str.ofString ", ") (z := Str.ofString ",") (by decide +kernel)
  show (Txt.replace x _ _).cps.toList = _
  rw [this]
  show replL [44, 32] [44] (tl x) = _
  rw [h, repl_nums]
end Rn

set_option Elab.async false
set_option linter.all false
set_option maxRecDepth 100000
set_option maxHeartbeats 4000000
namespace Rn
open PySem PySem.Spec PyProof.Rows L2
/-! ## every policy has a normal form -/
theorem sm_exists (ws : List Int) (h0 : 0 < ws.length) : ∃ n, Sm ws n := by
  have key : ∀ m, 2 ≤ m → m ≤ ws.length + 1 → (∃ n, Sm ws n) ∨ ∀ j : Nat, 2 ≤ j → j < m → innB ws (j : Int) = false := by
    intro m
    induction m with
    | zero => intro h; omega
    | succ m ih =>
      intro h1 h2
      by_cases e : m < 2
      · exact .inr fun j a b => by omega
      · rcases ih (by omega) (by omega) with z | z
        · exact .inl z
        · cases q : innB ws (m : Int) with
          | true => exact .inl ⟨m, .inr ⟨by omega, by omega, q⟩, z⟩
          | false =>
            refine .inr fun j a b => ?_
            by_cases y : j = m
            · rw [y, q]
            · exact z j a (by omega)
  rcases key (ws.length + 1) (by omega) (Nat.le_refl _) with z | z
  · exact z
  · exact ⟨ws.length + 1, .inl rfl, z⟩
theorem parts_exist : ∀ (m : Nat) (ws : List Int), ws.length ≤ m → ∃ ls, Parts ws ls
  | 0, ws, h => by
    have : ws = [] := List.length_eq_zero_iff.mp (by omega)
    subst this
    exact ⟨[], .nil⟩
  | m + 1, ws, h => by
    by_cases h0 : 0 < ws.length
    · obtain ⟨n, hn⟩ := sm_exists ws h0
      obtain ⟨n2, hp⟩ := sm_per hn h0
      obtain ⟨q, hq⟩ := hp.2.1
      have q1 : 1 ≤ q := by
        rcases Nat.eq_zero_or_pos q with z | z
        · rw [z, Nat.mul_zero] at hq; omega
        · exact z
      have hl := high_len hp.1 q1 hq
      have hlt : (pks ws (n - 1) n).length ≤ m := by
        have : 2 * q ≤ n * q := Nat.mul_le_mul_right _ n2
        omega
      obtain ⟨ls, hls⟩ := parts_exist m _ hlt
      have lo := low_len hp
      by_cases c : Flat1 (blk ws n 0)
      · obtain ⟨w, hw⟩ := c
        rw [lo] at hw
        exact ⟨_, .con h0 hn hw hls⟩
      · exact ⟨_, .pol h0 hn c hls⟩
    · have : ws = [] := List.length_eq_zero_iff.mp (by omega)
      subst this
      exact ⟨[], .nil⟩
theorem nf_exists {ws : List Int} (h : ∀ x ∈ ws, 0 ≤ x) : ∃ ls, NF ls ∧ flatL ls = ws := by
  obtain ⟨ls, hls⟩ := parts_exist _ ws (Nat.le_refl _)
  obtain ⟨p1, p2⟩ := parts_ok hls h
  obtain ⟨m1, m2⟩ := merge_ok p1
  exact ⟨_, m1, m2.trans p2⟩
open Classical in
noncomputable def nfOf (ws : List Int) : List Lay := if h : ∃ ls, NF ls ∧ flatL ls = ws then h.choose else []
theorem nfOf_ok {ws : List Int} (h : ∀ x ∈ ws, 0 ≤ x) : NF (nfOf ws) ∧ flatL (nfOf ws) = ws := by
  have e := nf_exists h
  unfold nfOf
  rw [dif_pos e]
  exact e.choose_spec
theorem nfOf_eq {ws : List Int} {ls : List Lay} (h : ∀ x ∈ ws, 0 ≤ x) (n : NF ls) (e : flatL ls = ws) : nfOf ws = ls := by
  obtain ⟨a, b⟩ := nfOf_ok h
  exact nf_unique a n (b.trans e.symm)
/-! ## the normal form of a list of layers -/
theorem flat_pos : ∀ {Ls : List Lay}, (∀ L ∈ Ls, L.ok = true) → ∀ x ∈ flatL Ls, 0 ≤ x
  | [], _, x, hx => by cases hx
  | L :: Ls, h, x, hx => by
    rw [flatL_cons h] at hx
    rcases nestL_mem hx with z | z
    · have hL := h L List.mem_cons_self
      cases L with
      | pol ns =>
        rw [Lay.ok_pol, List.all_eq_true] at hL
        exact of_decide_eq_true (hL x z)
      | con w n =>
        have z' : x ∈ List.replicate (n - 1).toNat w := z
        rw [Lay.ok_con, Bool.and_eq_true] at hL
        rw [(List.mem_replicate.mp z').2]
        exact of_decide_eq_true hL.1
    · exact flat_pos (fun M hM => h M (List.mem_cons_of_mem _ hM)) x z
noncomputable def nfL (Ls : List Lay) : List Lay := nfOf (flatL Ls)
theorem nfL_ok {Ls : List Lay} (h : ∀ L ∈ Ls, L.ok = true) : NF (nfL Ls) ∧ flatL (nfL Ls) = flatL Ls := nfOf_ok (flat_pos h)
theorem nfL_is {Ls Ms : List Lay} (h : ∀ L ∈ Ls, L.ok = true) (n : NF Ms) (e : flatL Ms = flatL Ls) : nfL Ls = Ms := nfOf_eq (flat_pos h) n e
theorem nfL_nf {Ls : List Lay} (h : NF Ls) : nfL Ls = Ls := nfL_is h.oks h rfl
/-- nestings that the program can work with -/
structure Fit (Ls : List Lay) : Prop where
  ok : ∀ L ∈ Ls, L.ok = true
  few : Ls.length ≤ 20000
  small : (attOf Ls).natAbs < 2 ^ 9000
  short : ∀ ns, Lay.pol ns ∈ Ls → ns.length ≤ 20000
theorem nf_pow2 : ∀ {ls : List Lay}, (∀ L ∈ ls, L.nf) → 2 ^ ls.length ≤ (flatL ls).length + 1
  | [], _ => by show 2 ^ 0 ≤ 0 + 1; decide
  | L :: ls, h => by
    rw [flatL_cons fun M hM => (h M hM).ok, nestL_len, List.length_cons, Nat.pow_succ, Nat.mul_comm]
    have h1 := nf_pow2 fun M hM => h M (List.mem_cons_of_mem _ hM)
    have h2 : 2 ≤ L.waits.length + 1 := (h L List.mem_cons_self).sz
    exact Nat.mul_le_mul h2 h1
theorem Fit.nf {Ls : List Lay} (h : Fit Ls) : attOf (nfL Ls) = attOf Ls ∧ (nfL Ls).length < 9000 ∧ ∀ L ∈ nfL Ls, 1 ≤ L.cnt ∧ L.cnt.natAbs < 2 ^ 9000 := by
  obtain ⟨n, e⟩ := nfL_ok h.ok
  have e1 := flatL_len _ (nfL Ls) rfl n.oks
  have e2 := flatL_len _ Ls rfl h.ok
  rw [e] at e1
  have ea : attOf (nfL Ls) = attOf Ls := by omega
  refine ⟨ea, ?_, fun L hL => ?_⟩
  · have h1 := nf_pow2 n.1
    rw [e] at h1
    have h4 : 2 ^ (nfL Ls).length < 2 ^ 9000 := by
      have := h.small
      generalize 2 ^ 9000 = B at *
      generalize 2 ^ (nfL Ls).length = C at *
      omega
    exact (Nat.pow_lt_pow_iff_right (by decide)).mp h4
  · have c1 := LayAt.con_pos (n.oks L hL)
    have c2 := cnt_le n.oks hL
    have := h.small
    rw [ea] at c2
    exact ⟨c1, Nat.lt_of_le_of_lt (by omega) this⟩
end Rn

set_option Elab.async false
set_option linter.all false
set_option maxRecDepth 100000
set_option maxHeartbeats 4000000
namespace Rn
open PySem PySem.Spec PyProof.Rows L2
/-! # normal forms put together and taken apart -/
/-- two lists of layers one after the other, the layers at the seam joined -/
def joinL (ps xs : List Lay) : List Lay :=
  match ps.getLast?, xs with
  | some (.con w n), .con v m :: r => if w = v then ps.dropLast ++ .con w (n * m) :: r else ps ++ xs
  | _, _ => ps ++ xs
def Seam (ps xs : List Lay) : Prop := ∃ A w n m B, ps = A ++ [Lay.con w n] ∧ xs = Lay.con w m :: B
theorem join_seam (A : List Lay) (w n m : Int) (B : List Lay) : joinL (A ++ [.con w n]) (.con w m :: B) = A ++ .con w (n * m) :: B := by
  unfold joinL
  rw [List.getLast?_append, List.getLast?_singleton, Option.some_or]
  show (if w = w then _ else _) = _
  rw [if_pos rfl, List.dropLast_concat]
theorem join_plain {ps xs : List Lay} (h : ¬ Seam ps xs) : joinL ps xs = ps ++ xs := by
  rcases List.eq_nil_or_concat ps with e | ⟨A, p, e⟩
  · subst e
    rfl
  · rw [List.concat_eq_append] at e
    subst e
    unfold joinL
    rw [List.getLast?_append, List.getLast?_singleton, Option.some_or]
    cases p with
    | pol ns => rfl
    | con w n =>
      cases xs with
      | nil => rfl
      | cons x r =>
        cases x with
        | pol ms => rfl
        | con v m =>
          show (if w = v then _ else _) = _
          rw [if_neg fun z => h ⟨A, w, n, m, r, rfl, by rw [z]⟩]
theorem join_or (ps xs : List Lay) : (∃ A w n m B, ps = A ++ [Lay.con w n] ∧ xs = Lay.con w m :: B ∧ joinL ps xs = A ++ .con w (n * m) :: B) ∨ (¬ Seam ps xs ∧ joinL ps xs = ps ++ xs) := by
  by_cases h : Seam ps xs
  · obtain ⟨A, w, n, m, B, rfl, rfl⟩ := h
    exact .inl ⟨A, w, n, m, B, rfl, rfl, join_seam A w n m B⟩
  · exact .inr ⟨h, join_plain h⟩
theorem join_nil (ps : List Lay) : joinL ps [] = ps := by
  rw [join_plain, List.append_nil]
  rintro ⟨A, w, n, m, B, _, e⟩
  cases e
theorem nil_join (xs : List Lay) : joinL [] xs = xs := rfl
/-! parts of a normal form -/
theorem NF.app {As Bs : List Lay} (h : NF (As ++ Bs)) : NF As ∧ NF Bs ∧ ¬ Seam As Bs := by
  refine ⟨⟨fun L hL => h.1 L (List.mem_append_left _ hL), fun i w n w' m a b => ?_⟩, ⟨fun L hL => h.1 L (List.mem_append_right _ hL), fun i w n w' m a b => ?_⟩, ?_⟩
  · have h1 := (List.getElem?_eq_some_iff.mp a).1
    have h2 := (List.getElem?_eq_some_iff.mp b).1
    exact h.2 i w n w' m (by rw [List.getElem?_append_left h1]; exact a) (by rw [List.getElem?_append_left h2]; exact b)
  · refine h.2 (As.length + i) w n w' m ?_ ?_
    · rw [List.getElem?_append_right (by omega), Nat.add_sub_cancel_left]
      exact a
    · rw [show As.length + i + 1 = As.length + (i + 1) by omega, List.getElem?_append_right (by omega), Nat.add_sub_cancel_left]
      exact b
  · rintro ⟨A, w, n, m, B, rfl, rfl⟩
    refine h.2 A.length w n w m ?_ ?_ rfl
    · rw [List.append_assoc, List.getElem?_append_right (Nat.le_refl _), Nat.sub_self]
      rfl
    · rw [List.append_assoc, List.getElem?_append_right (by omega), show A.length + 1 - A.length = 1 by omega]
      rfl
theorem nf_app {As Bs : List Lay} (ha : NF As) (hb : NF Bs) (h : ¬ Seam As Bs) : NF (As ++ Bs) := by
  refine ⟨fun L hL => ?_, fun i w n w' m a b => ?_⟩
  · rcases List.mem_append.mp hL with z | z
    · exact ha.1 L z
    · exact hb.1 L z
  · by_cases h1 : i + 1 < As.length
    · rw [List.getElem?_append_left (by omega)] at a
      rw [List.getElem?_append_left h1] at b
      exact ha.2 i w n w' m a b
    · by_cases h2 : i < As.length
      · intro e
        subst e
        rw [List.getElem?_append_left h2] at a
        rw [List.getElem?_append_right (by omega), show i + 1 - As.length = 0 by omega] at b
        apply h
        cases Bs with
        | nil => cases b
        | cons x r =>
          have eb : x = .con w m := Option.some.inj b
          subst eb
          have hne : As ≠ [] := fun z => by rw [z] at h2; cases h2
          refine ⟨As.dropLast, w, n, m, r, ?_, rfl⟩
          have h3 := (List.dropLast_concat_getLast hne).symm
          have h4 : As.getLast hne = .con w n := by
            have h5 : As[As.length - 1]? = some (As.getLast hne) := by rw [← List.getLast?_eq_getElem?, List.getLast?_eq_some_getLast hne]
            rw [show As.length - 1 = i by omega, a] at h5
            exact (Option.some.inj h5).symm
          rw [h4] at h3
          exact h3
      · rw [List.getElem?_append_right (by omega)] at a b
        rw [show i + 1 - As.length = (i - As.length) + 1 by omega] at b
        exact hb.2 _ w n w' m a b
theorem NF.rev {ls : List Lay} (h : NF ls) : NF ls.reverse := by
  refine ⟨fun L hL => h.1 L (List.mem_reverse.mp hL), fun i w n w' m a b e => ?_⟩
  have h2 := (List.getElem?_eq_some_iff.mp b).1
  rw [List.length_reverse] at h2
  rw [List.getElem?_reverse (by omega)] at a
  rw [List.getElem?_reverse (by omega)] at b
  exact h.2 (ls.length - 1 - (i + 1)) w' m w n b (by rw [show ls.length - 1 - (i + 1) + 1 = ls.length - 1 - i by omega]; exact a) e.symm
theorem nf_one {L : Lay} (h : L.nf) : NF [L] := ⟨fun M hM => by rw [List.mem_singleton.mp hM]; exact h, fun i w n w' m a b => by cases b⟩
theorem nf_nil : NF [] := ⟨(fun _ z => nomatch z), fun i w n w' m a => by cases a⟩
/-! the join of normal forms -/
theorem join_ok {ps xs : List Lay} (hp : NF ps) (hx : NF xs) : NF (joinL ps xs) ∧ flatL (joinL ps xs) = nestL (flatL ps) (flatL xs) := by
  rcases join_or ps xs with ⟨A, w, n, m, B, rfl, rfl, e⟩ | ⟨h, e⟩
  · rw [e]
    have hn := hp.1 (.con w n) (List.mem_append_right _ List.mem_cons_self)
    have hm := hx.1 (.con w m) List.mem_cons_self
    have n2 : 2 ≤ n := hn.2
    have m2 : 2 ≤ m := hm.2
    have nm : 2 * 2 ≤ n * m := Int.mul_le_mul n2 m2 (by decide) (by omega)
    have g : (Lay.con w (n * m)).nf := ⟨hn.1, by omega⟩
    obtain ⟨hA, _, sA⟩ := hp.app
    have hB : NF ([.con w m] ++ B) := hx
    obtain ⟨_, hB1, sB⟩ := hB.app
    have s1 : ¬ Seam [Lay.con w (n * m)] B := fun ⟨A', w', n', m', B', e1, e2⟩ => by
      have := (List.append_inj' (s₁ := []) e1 rfl).2
      cases this
      exact sB ⟨[], w, m, m', B', rfl, e2⟩
    have t1 : NF (.con w (n * m) :: B) := nf_app (nf_one g) hB1 s1
    have s2 : ¬ Seam A (.con w (n * m) :: B) := fun ⟨A', w', n', m', B', e1, e2⟩ => by
      cases e2
      exact sA ⟨A', w, n', n, [], e1, rfl⟩
    refine ⟨nf_app hA t1 s2, ?_⟩
    rw [flat_app hA.oks t1.oks, flatL_cons t1.oks, flat_app hA.oks (fun L hL => hp.oks L (List.mem_append_right _ hL)), flatL_cons hx.oks, nestL_assoc, ← nestL_assoc (flatL [.con w n])]
    congr 2
    rw [flatL_cons fun L hL => by rw [List.mem_singleton.mp hL]; exact hn.ok]
    show List.replicate (n * m - 1).toNat w = nestL (nestL (List.replicate (n - 1).toNat w) []) (List.replicate (m - 1).toNat w)
    rw [nestL_nil, nest_rep, show (n - 1).toNat + 1 = n.toNat by omega, show (m - 1).toNat + 1 = m.toNat by omega, ← Int.toNat_mul (by omega) (by omega)]
    congr 1
    omega
  · rw [e]
    have t := nf_app hp hx h
    exact ⟨t, flat_app hp.oks hx.oks⟩
theorem join_of {ls ps xs : List Lay} (hl : NF ls) (hp : NF ps) (hx : NF xs) (e : nestL (flatL ps) (flatL xs) = flatL ls) : joinL ps xs = ls := by
  obtain ⟨a, b⟩ := join_ok hp hx
  exact nf_unique a hl (b.trans e)
theorem join_assoc {ps xs ys : List Lay} (hp : NF ps) (hx : NF xs) (hy : NF ys) : joinL (joinL ps xs) ys = joinL ps (joinL xs ys) := by
  obtain ⟨a1, a2⟩ := join_ok hp hx
  obtain ⟨b1, b2⟩ := join_ok a1 hy
  obtain ⟨c1, c2⟩ := join_ok hx hy
  obtain ⟨d1, d2⟩ := join_ok hp c1
  exact nf_unique b1 d1 (by rw [b2, d2, a2, c2, nestL_assoc])
theorem merge_join {ps xs : List Lay} (hp : NF ps) (hx : NF xs) : mergeL (ps ++ xs) = joinL ps xs := by
  obtain ⟨a1, a2⟩ := join_ok hp hx
  obtain ⟨b1, b2⟩ := merge_ok (ls := ps ++ xs) fun L hL => (List.mem_append.mp hL).elim (hp.1 L) (hx.1 L)
  exact nf_unique b1 a1 (by rw [b2, a2, flat_app hp.oks hx.oks])
theorem merge_nf {ls : List Lay} (h : NF ls) : mergeL ls = ls := by
  obtain ⟨b1, b2⟩ := merge_ok h.1
  exact nf_unique b1 h b2
theorem seam_rev {ps xs : List Lay} : Seam xs.reverse ps.reverse ↔ Seam ps xs := by
  constructor
  · rintro ⟨A, w, n, m, B, e1, e2⟩
    refine ⟨B.reverse, w, m, n, A.reverse, ?_, ?_⟩
    · have := congrArg List.reverse e2
      rw [List.reverse_reverse, List.reverse_cons] at this
      exact this
    · have := congrArg List.reverse e1
      rw [List.reverse_reverse, List.reverse_append] at this
      exact this
  · rintro ⟨A, w, n, m, B, rfl, rfl⟩
    exact ⟨B.reverse, w, m, n, A.reverse, by rw [List.reverse_cons], by rw [List.reverse_append]; rfl⟩
theorem join_rev (ps xs : List Lay) : (joinL ps xs).reverse = joinL xs.reverse ps.reverse := by
  rcases join_or ps xs with ⟨A, w, n, m, B, rfl, rfl, e⟩ | ⟨h, e⟩
  · rw [e, List.reverse_append, List.reverse_cons, List.reverse_cons, List.reverse_append]
    have := join_seam B.reverse w m n A.reverse
    show _ = joinL (B.reverse ++ [.con w m]) ([Lay.con w n].reverse ++ A.reverse)
    rw [show [Lay.con w n].reverse ++ A.reverse = .con w n :: A.reverse from rfl, this, Int.mul_comm m n, List.append_assoc]
    rfl
  · rw [e, join_plain fun z => h (seam_rev.mp z), List.reverse_append]
/-! ## what is left of a normal form without its first part -/
/-- of one layer -/
def woL (l p : Lay) : Option (List Lay) :=
  if layB l p = true then some [] else match l, p with
    | .con w n, .con v m => if w = v ∧ n % m = 0 then some [.con w (n / m)] else none
    | _, _ => none
def woS (ls ps : List Lay) : Option (List Lay) :=
  if ps = [] then some ls
  else match ls[ps.length - 1]?, ps[ps.length - 1]? with
    | some l, some p => if laysB (ls.take (ps.length - 1)) (ps.take (ps.length - 1)) = true then (woL l p).map fun left => left ++ ls.drop ps.length else none
    | _, _ => none
theorem layB_refl (L : Lay) : layB L L = true := layB_iff.mpr rfl
theorem laysB_refl (Ls : List Lay) : laysB Ls Ls = true := laysB_iff.mpr rfl
theorem woS_snoc (A : List Lay) (p l : Lay) (B : List Lay) : woS (A ++ l :: B) (A ++ [p]) = (woL l p).map fun left => left ++ B := by
  unfold woS
  rw [if_neg (by simp), List.length_append, List.length_singleton, Nat.add_sub_cancel]
  rw [List.getElem?_append_right (Nat.le_refl _), Nat.sub_self, List.getElem?_append_right (Nat.le_refl _), Nat.sub_self]
  show (if laysB ((A ++ l :: B).take A.length) ((A ++ [p]).take A.length) = true then _ else _) = _
  rw [List.take_left, List.take_left, if_pos (laysB_refl A)]
  congr 1
  funext left
  congr 1
  rw [List.drop_append, List.drop_of_length_le (by omega), show A.length + 1 - A.length = 1 by omega]
  rfl
/-- what was joined comes apart -/
theorem woS_join {ps xs : List Lay} (hp : NF ps) (hx : NF xs) : woS (joinL ps xs) ps = some xs := by
  rcases join_or ps xs with ⟨A, w, n, m, B, rfl, rfl, e⟩ | ⟨h, e⟩
  · rw [e, woS_snoc]
    have n2 : 2 ≤ n := (hp.1 (.con w n) (List.mem_append_right _ List.mem_cons_self)).2
    have m2 : 2 ≤ m := (hx.1 (.con w m) List.mem_cons_self).2
    unfold woL
    rw [if_neg fun z => ?_]
    · show Option.map _ (if w = w ∧ n * m % n = 0 then some [Lay.con w (n * m / n)] else none) = _
      rw [if_pos ⟨rfl, Int.mul_emod_right n m⟩, Int.mul_ediv_cancel_left m (by omega)]
      rfl
    · have := layB_iff.mp z
      injection this with _ this
      have h3 : n * 2 ≤ n * m := Int.mul_le_mul_of_nonneg_left m2 (by omega)
      omega
  · rw [e]
    rcases List.eq_nil_or_concat ps with e2 | ⟨A, p, e2⟩
    · subst e2
      rfl
    · rw [List.concat_eq_append] at e2
      subst e2
      rw [List.append_assoc]
      show woS (A ++ p :: xs) (A ++ [p]) = _
      rw [woS_snoc]
      unfold woL
      rw [if_pos (layB_refl p)]
      rfl
/-- what is taken apart was joined -/
theorem woS_some {ls ps xs : List Lay} (hl : NF ls) (hp : NF ps) (h : woS ls ps = some xs) : NF xs ∧ joinL ps xs = ls := by
  rcases List.eq_nil_or_concat ps with e2 | ⟨A, p, e2⟩
  · subst e2
    have : some ls = some xs := h
    cases this
    exact ⟨hl, rfl⟩
  · rw [List.concat_eq_append] at e2
    subst e2
    have hlen : (A ++ [p]).length - 1 = A.length := by rw [List.length_append, List.length_singleton]; omega
    cases el : ls[A.length]? with
    | none =>
      unfold woS at h
      rw [if_neg (by simp), hlen, el] at h
      cases h
    | some l =>
      have hA : A.length < ls.length := (List.getElem?_eq_some_iff.mp el).1
      have e0 : ls = ls.take A.length ++ l :: ls.drop (A.length + 1) := by
        have h1 := (List.take_append_drop A.length ls).symm
        rw [List.drop_eq_getElem_cons hA] at h1
        have h2 := (List.getElem?_eq_some_iff.mp el).2
        rw [h2] at h1
        exact h1
      have hh := h
      unfold woS at hh
      rw [if_neg (by simp), hlen, el, List.getElem?_append_right (Nat.le_refl _), Nat.sub_self] at hh
      have hh : (if laysB (ls.take A.length) ((A ++ [p]).take A.length) = true then _ else _) = some xs := hh
      rw [List.take_left] at hh
      by_cases eA : ls.take A.length = A
      · rw [eA] at e0
        rw [e0, woS_snoc] at h
        rw [e0] at hl ⊢
        generalize ls.drop (A.length + 1) = B at *
        obtain ⟨nA, nlB, sA⟩ := hl.app
        have nlB' : NF ([l] ++ B) := nlB
        obtain ⟨nl, nB, sB⟩ := nlB'.app
        cases hw : woL l p with
        | none => rw [hw] at h; cases h
        | some left =>
          rw [hw] at h
          have ex : left ++ B = xs := Option.some.inj h
          subst ex
          unfold woL at hw
          by_cases c : layB l p = true
          · rw [if_pos c] at hw
            cases hw
            have := layB_iff.mp c
            subst this
            refine ⟨nB, ?_⟩
            show joinL (A ++ [l]) B = A ++ l :: B
            rw [join_plain, List.append_assoc]
            · rfl
            · rintro ⟨A', w, n, m, B', e1, e2⟩
              obtain ⟨q1, q2⟩ := List.append_inj' e1 rfl
              cases q2
              exact sB ⟨[], w, n, m, B', rfl, e2⟩
          · rw [if_neg c] at hw
            cases l with
            | pol ns => cases p <;> cases hw
            | con w n =>
              cases p with
              | pol ms => cases hw
              | con v m =>
                have hw : (if w = v ∧ n % m = 0 then some [Lay.con w (n / m)] else none) = some left := hw
                by_cases cc : w = v ∧ n % m = 0
                · rw [if_pos cc] at hw
                  cases hw
                  obtain ⟨rfl, cd⟩ := cc
                  have hn := nl.1 _ List.mem_cons_self
                  have hm := hp.1 (.con w m) (List.mem_append_right _ List.mem_cons_self)
                  have n2 : 2 ≤ n := hn.2
                  have m2 : 2 ≤ m := hm.2
                  have em : m * (n / m) = n := Int.mul_ediv_cancel' (Int.dvd_of_emod_eq_zero cd)
                  have nm : n ≠ m := fun z => c (layB_iff.mpr (by rw [z]))
                  have q2 : 2 ≤ n / m := by
                    rcases Int.lt_or_le (n / m) 2 with z | z
                    · exfalso
                      have : n / m ≤ 0 ∨ n / m = 1 := by omega
                      rcases this with y | y
                      · have : m * (n / m) ≤ m * 0 := Int.mul_le_mul_of_nonneg_left y (by omega)
                        omega
                      · rw [y, Int.mul_one] at em
                        exact nm em.symm
                    · exact z
                  have sq : ¬ Seam [Lay.con w (n / m)] B := fun ⟨A', w', n', m', B', e1, e2⟩ => by
                    have := (List.append_inj' (s₁ := []) e1 rfl).2
                    cases this
                    exact sB ⟨[], w, n, m', B', rfl, e2⟩
                  refine ⟨nf_app (nf_one ⟨hn.1, q2⟩) nB sq, ?_⟩
                  show joinL (A ++ [.con w m]) (.con w (n / m) :: B) = _
                  rw [join_seam, em]
                · rw [if_neg cc] at hw
                  cases hw
      · rw [if_neg fun z => eA (laysB_iff.mp z)] at hh
        cases hh
/-! ## lists of layers cut and put together -/
/-- the layers us of Ls, at any place -/
def Lays (G : Hp) (us : List V) (Ls : List Lay) : Prop := us.length = Ls.length ∧ ∀ (i : Nat) v L, us[i]? = some v → Ls[i]? = some L → LayAt G v L
theorem NestV.lays {H0 G : Hp} {p : Addr} {us : List V} {Ls : List Lay} (h : NestV H0 G p us Ls) : Lays G us Ls := ⟨h.2.1, h.2.2.1⟩
theorem Lays.same {G G' : Hp} {us : List V} {Ls : List Lay} (h : Lays G us Ls) (e : Same G G') : Lays G' us Ls := ⟨h.1, fun i v L a b => (h.2 i v L a b).same e⟩
theorem Lays.nest {G : Hp} {p : Addr} {us : List V} {Ls : List Lay} (h : Lays G us Ls) (hp : G p = some (.lst us)) : NestAt G p Ls := ⟨us, hp, h.1, h.2⟩
theorem Lays.take {G : Hp} {us : List V} {Ls : List Lay} (h : Lays G us Ls) (n : Nat) : Lays G (us.take n) (Ls.take n) := by
  refine ⟨by rw [List.length_take, List.length_take, h.1], fun i v L a b => ?_⟩
  rw [List.getElem?_take] at a b
  by_cases c : i < n
  · rw [if_pos c] at a b
    exact h.2 i v L a b
  · rw [if_neg c] at a
    cases a
theorem Lays.drop {G : Hp} {us : List V} {Ls : List Lay} (h : Lays G us Ls) (n : Nat) : Lays G (us.drop n) (Ls.drop n) := by
  refine ⟨by rw [List.length_drop, List.length_drop, h.1], fun i v L a b => ?_⟩
  rw [List.getElem?_drop] at a b
  exact h.2 _ v L a b
theorem Lays.rev {G : Hp} {us : List V} {Ls : List Lay} (h : Lays G us Ls) : Lays G us.reverse Ls.reverse := by
  refine ⟨by rw [List.length_reverse, List.length_reverse, h.1], fun i v L a b => ?_⟩
  have h1 := (List.getElem?_eq_some_iff.mp a).1
  have h2 := (List.getElem?_eq_some_iff.mp b).1
  rw [List.length_reverse] at h1 h2
  rw [List.getElem?_reverse h1] at a
  rw [List.getElem?_reverse h2] at b
  rw [h.1] at a
  exact h.2 _ v L a b
theorem Lays.app {G : Hp} {us vs : List V} {Ls Ms : List Lay} (h : Lays G us Ls) (h2 : Lays G vs Ms) : Lays G (us ++ vs) (Ls ++ Ms) := by
  refine ⟨by rw [List.length_append, List.length_append, h.1, h2.1], fun i v L a b => ?_⟩
  by_cases c : i < us.length
  · rw [List.getElem?_append_left c] at a
    rw [List.getElem?_append_left (by rw [← h.1]; exact c)] at b
    exact h.2 i v L a b
  · rw [List.getElem?_append_right (by omega)] at a
    rw [List.getElem?_append_right (by rw [← h.1]; omega), ← h.1] at b
    exact h2.2 _ v L a b
theorem Lays.get {G : Hp} {us : List V} {Ls : List Lay} (h : Lays G us Ls) {i : Nat} {L : Lay} (hi : Ls[i]? = some L) : ∃ v, us[i]? = some v ∧ LayAt G v L := by
  have h1 := (List.getElem?_eq_some_iff.mp hi).1
  rw [← h.1] at h1
  exact ⟨us[i], List.getElem?_eq_getElem h1, h.2 i _ L (List.getElem?_eq_getElem h1) hi⟩
theorem Lays.ref {G : Hp} {us : List V} {Ls : List Lay} (h : Lays G us Ls) {v : V} (hv : v ∈ us) : ∃ x o, v = .ref x ∧ G x = some o := by
  obtain ⟨i, hi, e⟩ := List.getElem_of_mem hv
  have h1 : i < Ls.length := by rw [← h.1]; exact hi
  have := h.2 i v Ls[i] (by rw [List.getElem?_eq_getElem hi, e]) (List.getElem?_eq_getElem h1)
  generalize Ls[i] = L at this
  cases L with
  | pol ns => obtain ⟨x, e1, e2⟩ := this; exact ⟨x, _, e1, e2⟩
  | con w n => obtain ⟨x, e1, e2⟩ := this; exact ⟨x, _, e1, e2⟩
/-- elements that are new since H0 -/
def New0 (H0 : Hp) (us : List V) : Prop := ∀ x, V.ref x ∈ us → H0 x = none
theorem NestV.new0 {H0 G : Hp} {p : Addr} {us : List V} {Ls : List Lay} (h : NestV H0 G p us Ls) : New0 H0 us := fun x hx => (h.2.2.2 x hx).2
/-- a list of such layers at a new place -/
theorem nestV_new {H0 G : Hp} {r : Addr} {us : List V} {Ls : List Lay} (h : Lays G us Ls) (n : New0 H0 us) (hr : G r = none) : NestV H0 (upd G r (.lst us)) r us Ls := by
  refine ⟨upd_same, h.1, fun i v L a b => ?_, fun x hx => ⟨fun z => ?_, n x hx⟩⟩
  · exact (h.2 i v L a b).same (same_new hr)
  · obtain ⟨y, o, e1, e2⟩ := h.ref hx
    cases e1
    rw [z, hr] at e2
    cases e2
theorem New0.sub {H0 : Hp} {us vs : List V} (h : New0 H0 us) (e : ∀ v ∈ vs, v ∈ us) : New0 H0 vs := fun x hx => h x (e _ hx)
theorem New0.app {H0 : Hp} {us vs : List V} (h : New0 H0 us) (h2 : New0 H0 vs) : New0 H0 (us ++ vs) := fun x hx => (List.mem_append.mp hx).elim (h x) (h2 x)
/-- what is new since H and what stood in H have nothing in common -/
theorem nodup_new {G : Hp} {us vs : List V} {Ls : List Lay} (h : Lays G vs Ls) (n : New0 G us) (hu : us.Nodup) (hv : vs.Nodup) : (us ++ vs).Nodup := by
  rw [List.nodup_append]
  refine ⟨hu, hv, fun x hx y hy e => ?_⟩
  subst e
  obtain ⟨z, o, e1, e2⟩ := h.ref hy
  subst e1
  rw [n z hx] at e2
  cases e2
/-! ## the common inner part -/
def gcdZ (n m : Int) : Int := ((Nat.gcd n.natAbs m.natAbs : Nat) : Int)
theorem gcdZ_comm (n m : Int) : gcdZ n m = gcdZ m n := by unfold gcdZ; rw [Nat.gcd_comm]
theorem gcdZ_dvd {n m : Int} (h : 2 ≤ n) : gcdZ n m ∣ n ∧ gcdZ n m ∣ m ∧ 1 ≤ gcdZ n m := by
  unfold gcdZ
  refine ⟨Int.natAbs_dvd_natAbs.mp (by rw [Int.natAbs_natCast]; exact Nat.gcd_dvd_left _ _), Int.natAbs_dvd_natAbs.mp (by rw [Int.natAbs_natCast]; exact Nat.gcd_dvd_right _ _), ?_⟩
  have := Nat.gcd_pos_of_pos_left m.natAbs (show 0 < n.natAbs by omega)
  omega
def ciO (L M : Lay) : List Lay :=
  if layB L M = true then [L] else match L, M with
    | .con w n, .con v m => if w = v ∧ 1 < gcdZ n m then [.con w (gcdZ n m)] else []
    | _, _ => []
def ciL : List Lay → List Lay → List Lay
  | l :: ls, m :: ms => if layB l m = true then l :: ciL ls ms else ciO l m
  | _, _ => []
theorem ciL_nil_r (ls : List Lay) : ciL ls [] = [] := by cases ls <;> rfl
theorem layB_comm (L M : Lay) : layB L M = layB M L := by
  rw [Bool.eq_iff_iff, layB_iff, layB_iff]
  exact ⟨Eq.symm, Eq.symm⟩
theorem ciO_comm (L M : Lay) : ciO L M = ciO M L := by
  unfold ciO
  by_cases c : layB L M = true
  · have e := layB_iff.mp c
    subst e
    rfl
  · rw [if_neg c, if_neg (by rw [layB_comm]; exact c)]
    cases L with
    | pol ns => cases M <;> rfl
    | con w n =>
      cases M with
      | pol ms => rfl
      | con v m =>
        show (if w = v ∧ 1 < gcdZ n m then [Lay.con w (gcdZ n m)] else []) = if v = w ∧ 1 < gcdZ m n then [Lay.con v (gcdZ m n)] else []
        rw [gcdZ_comm m n]
        by_cases e : w = v
        · subst e
          rfl
        · rw [if_neg fun z => e z.1, if_neg fun z => e z.1.symm]
theorem ciL_comm : ∀ ls ms : List Lay, ciL ls ms = ciL ms ls
  | [], ms => by cases ms <;> rfl
  | l :: ls, [] => rfl
  | l :: ls, m :: ms => by
    unfold ciL
    by_cases c : layB l m = true
    · have e := layB_iff.mp c
      subst e
      rw [if_pos c, if_pos c, ciL_comm ls ms]
    · rw [if_neg c, if_neg (by rw [layB_comm]; exact c), ciO_comm]
theorem join_cons {l : Lay} {c xs : List Lay} (h : c ≠ []) : joinL (l :: c) xs = l :: joinL c xs := by
  rcases join_or c xs with ⟨A, w, n, m, B, rfl, rfl, e⟩ | ⟨hs, e⟩
  · rw [e]
    exact join_seam (l :: A) w n m B
  · rw [e, join_plain]
    · rfl
    · rintro ⟨A, w, n, m, B, e1, e2⟩
      cases A with
      | nil =>
        injection e1 with _ e1
        exact h e1
      | cons a A =>
        injection e1 with _ e1
        exact hs ⟨A, w, n, m, B, e1, e2⟩
theorem join_one {l : Lay} {xs : List Lay} (h : NF (l :: xs)) : joinL [l] xs = l :: xs := by
  have h' : NF ([l] ++ xs) := h
  rw [join_plain h'.app.2.2]
  rfl
theorem con_split {w n g : Int} {r : List Lay} (h : NF (.con w n :: r)) (hg : g ∣ n) (g2 : 2 ≤ g) : ∃ xs, NF xs ∧ joinL [.con w g] xs = .con w n :: r := by
  obtain ⟨q, rfl⟩ := hg
  have hn := h.1 _ List.mem_cons_self
  have n2 : 2 ≤ g * q := hn.2
  have q1 : 1 ≤ q := by
    rcases Int.lt_or_le q 1 with z | z
    · have : g * q ≤ g * 0 := Int.mul_le_mul_of_nonneg_left (by omega) (by omega)
      omega
    · exact z
  have h' : NF ([.con w (g * q)] ++ r) := h
  obtain ⟨_, nr, sr⟩ := h'.app
  by_cases e : q = 1
  · subst e
    rw [Int.mul_one] at h ⊢
    exact ⟨r, nr, join_one h⟩
  · have sq : ¬ Seam [Lay.con w q] r := fun ⟨A', w', n', m', B', e1, e2⟩ => by
      have := (List.append_inj' (s₁ := []) e1 rfl).2
      cases this
      exact sr ⟨[], w, g * q, m', B', rfl, e2⟩
    exact ⟨.con w q :: r, nf_app (nf_one (L := .con w q) ⟨hn.1, by omega⟩) nr sq, join_seam [] w g q r⟩
theorem ciO_cases {L M : Lay} (h : layB L M ≠ true) : ciO L M = [] ∨ ∃ w n m, L = .con w n ∧ M = .con w m ∧ 1 < gcdZ n m ∧ ciO L M = [.con w (gcdZ n m)] := by
  unfold ciO
  rw [if_neg h]
  cases L with
  | pol ns => cases M <;> exact .inl rfl
  | con w n =>
    cases M with
    | pol ms => exact .inl rfl
    | con v m =>
      show (if w = v ∧ 1 < gcdZ n m then [Lay.con w (gcdZ n m)] else []) = [] ∨ _
      by_cases c : w = v ∧ 1 < gcdZ n m
      · obtain ⟨rfl, c2⟩ := c
        exact .inr ⟨w, n, m, rfl, rfl, c2, if_pos ⟨rfl, c2⟩⟩
      · exact .inl (if_neg c)
/-- the head of the common part is as the head of the first -/
theorem ciL_seam {l : Lay} : ∀ {ls ms : List Lay}, Seam [l] (ciL ls ms) → Seam [l] ls
  | [], ms, h => by
    have : ciL [] ms = [] := by cases ms <;> rfl
    rw [this] at h
    exact h
  | x :: ls, [], h => by
    obtain ⟨A, w, n, m, B, e1, e2⟩ := h
    cases e2
  | x :: ls, y :: ms, h => by
    obtain ⟨A, w, n, m, B, e1, e2⟩ := h
    unfold ciL at e2
    by_cases c : layB x y = true
    · rw [if_pos c] at e2
      injection e2 with e2 _
      exact ⟨A, w, n, m, ls, e1, by rw [e2]⟩
    · rw [if_neg c] at e2
      rcases ciO_cases c with z | ⟨w', n', m', rfl, rfl, _, z⟩
      · rw [z] at e2; cases e2
      · rw [z] at e2
        cases e2
        exact ⟨A, _, _, _, ls, e1, rfl⟩
theorem ciL_nf : ∀ {ls ms : List Lay}, NF ls → NF (ciL ls ms)
  | [], ms, _ => by
    have : ciL [] ms = [] := by cases ms <;> rfl
    rw [this]
    exact nf_nil
  | x :: ls, [], _ => nf_nil
  | x :: ls, y :: ms, h => by
    have h' : NF ([x] ++ ls) := h
    obtain ⟨nx, nl, sx⟩ := h'.app
    unfold ciL
    by_cases c : layB x y = true
    · rw [if_pos c]
      exact nf_app nx (ciL_nf nl) fun z => sx (ciL_seam z)
    · rw [if_neg c]
      rcases ciO_cases c with z | ⟨w, n, m, rfl, rfl, g, z⟩
      · rw [z]
        exact nf_nil
      · rw [z]
        exact nf_one ⟨(h.1 _ List.mem_cons_self).1, g⟩
/-- the common part is a part of the first -/
theorem ciL_div : ∀ {ls ms : List Lay}, NF ls → ∃ xs, NF xs ∧ joinL (ciL ls ms) xs = ls
  | [], ms, h => ⟨[], nf_nil, by
    have : ciL [] ms = [] := by cases ms <;> rfl
    rw [this]
    rfl⟩
  | x :: ls, [], h => ⟨x :: ls, h, rfl⟩
  | x :: ls, y :: ms, h => by
    have h' : NF ([x] ++ ls) := h
    obtain ⟨nx, nl, sx⟩ := h'.app
    unfold ciL
    by_cases c : layB x y = true
    · rw [if_pos c]
      obtain ⟨xs, n1, e1⟩ := ciL_div (ms := ms) nl
      refine ⟨xs, n1, ?_⟩
      by_cases z : ciL ls ms = []
      · rw [z] at e1 ⊢
        have e2 : xs = ls := e1
        subst e2
        exact join_one h
      · rw [join_cons z, e1]
    · rw [if_neg c]
      rcases ciO_cases c with z | ⟨w, n, m, rfl, rfl, g, z⟩
      · rw [z]
        exact ⟨_, h, rfl⟩
      · rw [z]
        have n2 := (h.1 _ List.mem_cons_self).2
        exact con_split h (gcdZ_dvd n2).1 g
theorem ciL_cons_same (l : Lay) (ls ms : List Lay) : ciL (l :: ls) (l :: ms) = l :: ciL ls ms := by
  show (if layB l l = true then _ else _) = _
  rw [if_pos (layB_refl l)]
/-- every common part is a part of it -/
theorem ciL_max : ∀ {ps xs ys : List Lay}, NF ps → NF xs → NF ys → ∃ zs, NF zs ∧ joinL ps zs = ciL (joinL ps xs) (joinL ps ys)
  | [], xs, ys, _, hx, hy => ⟨ciL xs ys, ciL_nf hx, rfl⟩
  | [p], xs, ys, hp, hx, hy => by
    have npx := (join_ok hp hx).1
    have npy := (join_ok hp hy).1
    rcases join_or [p] xs with ⟨A, w, n, m1, B, e1, rfl, ex⟩ | ⟨sx, ex⟩
    · have e1' := List.append_inj' (s₁ := []) e1 rfl
      obtain ⟨rfl, e1''⟩ := e1'
      cases e1''
      have ex : joinL [.con w n] (.con w m1 :: B) = .con w (n * m1) :: B := ex
      have n2 : 2 ≤ n := (hp.1 _ List.mem_cons_self).2
      have w0 : 0 ≤ w := (hp.1 _ List.mem_cons_self).1
      have m12 : 2 ≤ m1 := (hx.1 _ List.mem_cons_self).2
      rw [ex] at npx ⊢
      rcases join_or [.con w n] ys with ⟨A, w', n', m2, B', e1, rfl, ey⟩ | ⟨sy, ey⟩
      · have e1' := List.append_inj' (s₁ := []) e1 rfl
        obtain ⟨rfl, e1''⟩ := e1'
        cases e1''
        have ey : joinL [.con w n] (.con w m2 :: B') = .con w (n * m2) :: B' := ey
        have m22 : 2 ≤ m2 := (hy.1 _ List.mem_cons_self).2
        rw [ey] at npy ⊢
        by_cases em : m1 = m2
        · subst em
          rw [ciL_cons_same]
          have nB := ciL_nf (ms := B') (show NF B from hx.tail)
          have hx' : NF ([.con w m1] ++ B) := hx
          have sq : ¬ Seam [Lay.con w m1] (ciL B B') := fun z => hx'.app.2.2 (ciL_seam z)
          exact ⟨.con w m1 :: ciL B B', nf_app (nf_one (L := .con w m1) ⟨w0, m12⟩) nB sq, join_seam [] w n m1 _⟩
        · have ne : layB (.con w (n * m1)) (.con w (n * m2)) ≠ true := fun z => by
            have := layB_iff.mp z
            injection this with _ this
            exact em (Int.eq_of_mul_eq_mul_left (by omega) this)
          have eg : gcdZ (n * m1) (n * m2) = n * gcdZ m1 m2 := by
            unfold gcdZ
            rw [Int.natAbs_mul, Int.natAbs_mul, Nat.gcd_mul_left, Int.natCast_mul]
            congr 1
            omega
          obtain ⟨_, _, g1⟩ := gcdZ_dvd (n := m1) (m := m2) m12
          have gb : n * 1 ≤ n * gcdZ m1 m2 := Int.mul_le_mul_of_nonneg_left g1 (by omega)
          have ec : ciL (.con w (n * m1) :: B) (.con w (n * m2) :: B') = [.con w (n * gcdZ m1 m2)] := by
            show (if layB _ _ = true then _ else _) = _
            rw [if_neg ne]
            unfold ciO
            rw [if_neg ne]
            show (if w = w ∧ 1 < gcdZ (n * m1) (n * m2) then [Lay.con w (gcdZ (n * m1) (n * m2))] else []) = _
            rw [eg, if_pos ⟨rfl, by omega⟩]
          rw [ec]
          by_cases e1 : gcdZ m1 m2 = 1
          · rw [e1, Int.mul_one]
            exact ⟨[], nf_nil, join_nil _⟩
          · exact ⟨[.con w (gcdZ m1 m2)], nf_one ⟨w0, by omega⟩, join_seam [] w n _ []⟩
      · rw [ey] at npy ⊢
        have ne : layB (.con w (n * m1)) (.con w n) ≠ true := fun z => by
          have := layB_iff.mp z
          injection this with _ this
          have h3 : n * 2 ≤ n * m1 := Int.mul_le_mul_of_nonneg_left m12 (by omega)
          omega
        have eg : gcdZ (n * m1) n = n := by
          unfold gcdZ
          rw [Int.natAbs_mul, Nat.gcd_comm, Nat.gcd_mul_right_right]
          omega
        refine ⟨[], nf_nil, ?_⟩
        rw [join_nil]
        show _ = (if layB _ _ = true then _ else _)
        rw [if_neg ne]
        unfold ciO
        rw [if_neg ne]
        show _ = (if w = w ∧ 1 < gcdZ (n * m1) n then [Lay.con w (gcdZ (n * m1) n)] else [])
        rw [eg, if_pos ⟨rfl, by omega⟩]
    · rw [ex] at npx ⊢
      rcases join_or [p] ys with ⟨A, w, n, m2, B, e1, rfl, ey⟩ | ⟨sy, ey⟩
      · have e1' := List.append_inj' (s₁ := []) e1 rfl
        obtain ⟨rfl, e1''⟩ := e1'
        cases e1''
        have ey : joinL [.con w n] (.con w m2 :: B) = .con w (n * m2) :: B := ey
        have n2 : 2 ≤ n := (hp.1 _ List.mem_cons_self).2
        have m22 : 2 ≤ m2 := (hy.1 _ List.mem_cons_self).2
        rw [ey] at npy ⊢
        have ne : layB (.con w n) (.con w (n * m2)) ≠ true := fun z => by
          have := layB_iff.mp z
          injection this with _ this
          have h3 : n * 2 ≤ n * m2 := Int.mul_le_mul_of_nonneg_left m22 (by omega)
          omega
        have eg : gcdZ n (n * m2) = n := by
          unfold gcdZ
          rw [Int.natAbs_mul, Nat.gcd_mul_right_right]
          omega
        refine ⟨[], nf_nil, ?_⟩
        rw [join_nil]
        show _ = (if layB _ _ = true then _ else _)
        rw [if_neg ne]
        unfold ciO
        rw [if_neg ne]
        show _ = (if w = w ∧ 1 < gcdZ n (n * m2) then [Lay.con w (gcdZ n (n * m2))] else [])
        rw [eg, if_pos ⟨rfl, by omega⟩]
      · rw [ey] at npy ⊢
        have e : ciL ([p] ++ xs) ([p] ++ ys) = p :: ciL xs ys := ciL_cons_same p xs ys
        rw [e]
        refine ⟨ciL xs ys, ciL_nf hx, ?_⟩
        rw [join_plain fun z => sx (ciL_seam z)]
        rfl
  | p :: q :: ps, xs, ys, hp, hx, hy => by
    obtain ⟨zs, n1, e1⟩ := ciL_max (ps := q :: ps) hp.tail hx hy
    refine ⟨zs, n1, ?_⟩
    have ne : q :: ps ≠ [] := List.cons_ne_nil _ _
    rw [join_cons (xs := zs) ne, join_cons (xs := xs) ne, join_cons (xs := ys) ne, ciL_cons_same, e1]
/-! a walk over two lists of any lengths -/
theorem for_zip3 {K : PySem.W.Frag} {a b : Addr} {xs ys : List V} {g : TG} {tb : TS} {D : Ends} {σ : L2.St} {H : Hp} (Pv : Nat → L2.St → Hp → Prop) (h0 : Pv 0 σ H) (hq : ∀ i σ H, Pv i σ H → SqL K H a xs ∧ SqL K H b ys)
    (hs : ∀ (i : Nat) (x y : V) (T : Addr) (σ : L2.St) (H : Hp), xs[i]? = some x → ys[i]? = some y → Pv i σ H → H T = none → g (.ref T) σ (upd H T (.tup [x, y])) fun σ2 H2 => tb { D with nx := Pv (i + 1), ct := Pv (i + 1), bk := D.nx } σ2 H2) (hd : ∀ i σ H, i = min xs.length ys.length → Pv i σ H → D.nx σ H) :
    ∃ W : Nat → Nat → L2.St → Hp → Prop, (∃ m, W 0 m σ H) ∧ ∀ i m σ H, W i m σ H →
      ((Itz K a b).stop i H ∧ D.nx σ H) ∨ ((Itz K a b).go i H ∧ ∃ N : L2.St → Hp → Prop, (∀ σ' H', N σ' H' → ∃ m', m' < m ∧ W (i + 1) m' σ' H') ∧ ∀ v H', (Itz K a b).yld i H v H' → g v σ H' fun σ2 H2 => tb { D with nx := N, ct := N, bk := D.nx } σ2 H2) := by
  generalize hmin : min xs.length ys.length = l at *
  refine ⟨fun i m σ H => m = l - i ∧ i ≤ l ∧ Pv i σ H, ⟨l, rfl, Nat.zero_le _, h0⟩, ?_⟩
  rintro i m σ H ⟨rfl, hi, p⟩
  obtain ⟨qx, qy⟩ := hq i σ H p
  by_cases hlt : i < l
  · have hx : xs[i]? = some (xs[i]'(by omega)) := List.getElem?_eq_getElem (by omega)
    have hy : ys[i]? = some (ys[i]'(by omega)) := List.getElem?_eq_getElem (by omega)
    refine .inr ⟨⟨xs, ys, _, _, qx, qy, hx, hy⟩, Pv (i + 1), fun σ' H' p' => ⟨l - (i + 1), by omega, rfl, hlt, p'⟩, fun v H' y => ?_⟩
    obtain ⟨T, x', y', rfl, hT, rfl, f1, f2⟩ := y
    exact hs i x' y' T σ H (f1 xs qx) (f2 ys qy) p hT
  · have e : i = l := by omega
    refine .inl ⟨⟨xs, ys, qx, qy, ?_⟩, hd i σ H e p⟩
    omega
theorem nodup_rev {α : Type} {l : List α} (h : l.Nodup) : l.reverse.Nodup := by
  unfold List.Nodup at *
  rw [List.pairwise_reverse]
  exact h.imp fun a => Ne.symm a
theorem Lays.carry {G G' : Hp} {us : List V} {Ls : List Lay} (h : Lays G us Ls) (k : ∀ x o, V.ref x ∈ us → G x = some o → G' x = some o) : Lays G' us Ls := by
  refine ⟨h.1, fun i v L a b => ?_⟩
  have l := h.2 i v L a b
  have m := List.mem_of_getElem? a
  cases L with
  | pol ns => obtain ⟨x, rfl, e⟩ := l; exact ⟨x, rfl, k x _ m e⟩
  | con w n => obtain ⟨x, rfl, e⟩ := l; exact ⟨x, rfl, k x _ m e⟩
theorem Lays.none (G : Hp) : Lays G [] [] := ⟨rfl, fun i v L a => by cases a⟩
theorem eqv_lay {K : PySem.W.Frag} {H : Hp} {u v : V} {L M : Lay} (hL : LayAt H u L) (hM : LayAt H v M) : Dp K H u L.dat ∧ Dp K H v M.dat ∧ SeqAt.shaped L.dat = true ∧ SeqAt.shaped M.dat = true ∧ PyData.eqv L.dat M.dat = layB L M := by
  have sh : ∀ L : Lay, SeqAt.shaped L.dat = true := fun L => by
    cases L with
    | pol ns => exact shaped_ints ns
    | con w n =>
      unfold SeqAt.shaped
      rw [Bool.and_eq_true]
      refine ⟨?_, decide_eq_true ?_⟩
      · show (PyData.tuple [.int w, .int n]).canLay0 = true
        simp only [PyData.canLay0, PyData.canLayAll0, Bool.and_true]
      · show (PyData.tuple [.int w, .int n]).depth ≤ _
        simp only [PyData.depth, PyData.depthAll]
        decide
  exact ⟨dp_lay hL, dp_lay hM, sh L, sh M, eqv_dat L M⟩
end Rn

set_option Elab.async false
set_option linter.all false
set_option maxRecDepth 100000
set_option maxHeartbeats 4000000
namespace Rn
open PySem PySem.Spec PyProof.Rows L2 TL PySem.StrLaws
/-! # texts read -/
theorem units65 {k : Nat} {A : Around} (r : Room k A) : A.units + 65 < cLine := by have := r.un; omega
theorem num_head {n : Nat} : 1 ≤ n → ∃ c r, numL n = c :: r ∧ c ≠ 48 := by
  induction n using Nat.strongRecOn with
  | _ n ih =>
    intro h
    by_cases e : n < 10
    · exact ⟨48 + n, [], numL_lt e, by omega⟩
    · obtain ⟨c, r, h1, h2⟩ := ih (n / 10) (by omega) (by omega)
      exact ⟨c, r ++ [48 + n % 10], by rw [numL_step (by omega), h1]; rfl, h2⟩
theorem num_ascii {t : Str} {n : Nat} (h : tl t = numL n) : Txt.isascii t = true := by
  unfold Txt.isascii
  rw [← Array.all_toList, List.all_eq_true]
  intro c hc
  have hc : c ∈ tl t := hc
  rw [h] at hc
  have := num_dg n c hc
  unfold dg at this
  exact decide_eq_true (by omega)
theorem dig_uni : ∀ d : Nat, d < 10 → Unicode.isDigit (48 + d) = true := by decide +kernel
theorem num_digit {t : Str} {n : Nat} (h : tl t = numL n) : Txt.isdigit t = true := by
  unfold Txt.isdigit
  rw [Bool.and_eq_true]
  refine ⟨decide_eq_true ?_, ?_⟩
  · rw [len_tl, h]
    exact List.length_pos_iff.mpr (numL_ne n)
  · rw [← Array.all_toList, List.all_eq_true]
    intro c hc
    have hc : c ∈ tl t := hc
    rw [h] at hc
    have := num_dg n c hc
    unfold dg at this
    have := dig_uni (c - 48) (by omega)
    rw [show 48 + (c - 48) = c by omega] at this
    exact this
theorem num_start {t : Str} {n : Nat} (h : tl t = numL n) (h1 : 1 ≤ n) : Txt.startswith t (Str.ofString "0") = false := by
  rw [Bool.eq_false_iff]
  intro z
  unfold Txt.startswith at z
  rw [Bool.and_eq_true] at z
  have a : At t (Str.ofString "0") t.length 0 := ⟨of_decide_eq_true z.1, z.2⟩
  rw [at_iff (by decide +kernel)] at a
  obtain ⟨c, r, e, ne⟩ := num_head h1
  rw [h, e, List.drop_zero] at a
  have : pre (48 :: []) (c :: r) = true := a
  rw [pre_of_head [] r ne] at this
  cases this
theorem num_zero {t : Str} {n : Nat} (h : tl t = numL n) (e : t = Str.ofString "0") : n = 0 := by
  rw [e] at h
  have h : numL 0 = numL n := h
  exact (numL_inj h).symm
theorem num_str {t : Str} {n : Nat} (h : tl t = numL n) : t = Str.ofString (toString ((n : Nat) : Int)) := ext_tl (h.trans (tl_num n).symm)
theorem num_int {t : Str} {n : Nat} (h : tl t = numL n) (l : (numL n).length ≤ 4300) : PySem.intText? t = some (n : Int) := by
  rw [num_str h]
  exact int_num l
/-- a joined text in its parts -/
theorem split_parts {t y : Str} {s : Nat} {S : List Nat} {parts : List (List Nat)} (ey : tl y = s :: S) (hk : y.cps.all (· < 256) = true) (h : tl t = TL.joinL (s :: S) parts) (hne : parts ≠ []) (hp : ∀ p ∈ parts, s ∉ p) : (Txt.split t y).map tl = parts := by
  rw [split_spl _ y (by rw [ey]; simp) (kind_ok hk), ey, h]
  exact spl_join hne hp
theorem nums_free {s : Nat} (h : s < 48 ∨ 57 < s) (ns : List Int) : ∀ p ∈ numsL ns, s ∉ p := fun p hp => by
  obtain ⟨x, _, rfl⟩ := List.mem_map.mp hp
  exact numL_free h
theorem joinL_mem {S : List Nat} {c : Nat} : ∀ {ps : List (List Nat)}, c ∈ TL.joinL S ps → c ∈ S ∨ ∃ p ∈ ps, c ∈ p
  | [], h => by cases h
  | [p], h => .inr ⟨p, List.mem_cons_self, h⟩
  | p :: q :: r, h => by
    have h : c ∈ p ++ (S ++ TL.joinL S (q :: r)) := h
    rcases List.mem_append.mp h with z | z
    · exact .inr ⟨p, List.mem_cons_self, z⟩
    · rcases List.mem_append.mp z with z | z
      · exact .inl z
      · rcases joinL_mem (ps := q :: r) z with y | ⟨w, y1, y2⟩
        · exact .inl y
        · exact .inr ⟨w, List.mem_cons_of_mem _ y1, y2⟩
/-- the signs of a layer's text -/
theorem showL_signs {L : Lay} {c : Nat} (h : c ∈ showL L) : dg c ∨ c = 44 ∨ c = 45 ∨ c = 120 := by
  cases L with
  | con w n =>
    have h : c ∈ numL w.toNat ++ 120 :: numL n.toNat := h
    rcases List.mem_append.mp h with z | z
    · exact .inl (num_dg _ c z)
    · rcases List.mem_cons.mp z with z | z
      · exact .inr (.inr (.inr z))
      · exact .inl (num_dg _ c z)
  | pol ns =>
    cases ns with
    | nil => have h : c ∈ [45] := h; exact .inr (.inr (.inl (List.mem_singleton.mp h)))
    | cons n ns =>
      have h : c ∈ TL.joinL [44] (numsL (n :: ns)) := h
      rcases joinL_mem h with z | ⟨p, hp, z⟩
      · exact .inr (.inl (List.mem_singleton.mp z))
      · obtain ⟨x, _, rfl⟩ := List.mem_map.mp hp
        exact .inl (num_dg _ c z)
theorem pol_no {ns : List Int} : 120 ∉ showL (.pol ns) := fun h => by
  cases ns with
  | nil => have h : 120 ∈ [45] := h; exact absurd (List.mem_singleton.mp h) (by decide)
  | cons n ns =>
    have h : 120 ∈ TL.joinL [44] (numsL (n :: ns)) := h
    rcases joinL_mem h with z | ⟨p, hp, z⟩
    · exact absurd (List.mem_singleton.mp z) (by decide)
    · obtain ⟨x, _, rfl⟩ := List.mem_map.mp hp
      exact numL_free (.inr (by decide)) z
theorem con_has {w n : Int} : 120 ∈ showL (.con w n) := List.mem_append_right _ List.mem_cons_self
theorem pol_dash {n : Int} {ns : List Int} : showL (.pol (n :: ns)) ≠ [45] := fun h => by
  have h : TL.joinL [44] (numsL (n :: ns)) = [45] := h
  have e : ∃ c r, TL.joinL [44] (numsL (n :: ns)) = c :: r ∧ dg c := by
    obtain ⟨c, r, e⟩ : ∃ c r, numL n.toNat = c :: r := by
      rcases q : numL n.toNat with _ | ⟨c, r⟩
      · exact absurd q (numL_ne _)
      · exact ⟨c, r, rfl⟩
    have d := num_dg n.toNat c (by rw [e]; exact List.mem_cons_self)
    cases ns with
    | nil => exact ⟨c, r, e, d⟩
    | cons m ns =>
      refine ⟨c, r ++ ([44] ++ TL.joinL [44] (numsL (m :: ns))), ?_, d⟩
      show numL n.toNat ++ _ = _
      rw [e]
      rfl
  obtain ⟨c, r, e, d⟩ := e
  rw [h] at e
  injection e with e _
  unfold dg at d
  omega
theorem con_dash {w n : Int} : showL (.con w n) ≠ [45] := fun h => by
  have := con_has (w := w) (n := n)
  rw [h] at this
  exact absurd (List.mem_singleton.mp this) (by decide)
theorem nums_inj : ∀ {ns ms : List Int}, (∀ x ∈ ns, 0 ≤ x) → (∀ x ∈ ms, 0 ≤ x) → numsL ns = numsL ms → ns = ms
  | [], [], _, _, _ => rfl
  | [], _ :: _, _, _, h => by cases h
  | _ :: _, [], _, _, h => by cases h
  | n :: ns, m :: ms, hn, hm, h => by
    have h : numL n.toNat :: numsL ns = numL m.toNat :: numsL ms := h
    injection h with h1 h2
    have := numL_inj h1
    have a := hn n List.mem_cons_self
    have b := hm m List.mem_cons_self
    rw [nums_inj (fun x hx => hn x (List.mem_cons_of_mem _ hx)) (fun x hx => hm x (List.mem_cons_of_mem _ hx)) h2, show n = m by omega]
theorem showL_inj {L M : Lay} (hL : L.ok = true) (hM : M.ok = true) (h : showL L = showL M) : L = M := by
  cases L with
  | con w n =>
    cases M with
    | pol ms => exact absurd (h ▸ con_has (w := w) (n := n)) pol_no
    | con v m =>
      have h : numL w.toNat ++ 120 :: numL n.toNat = numL v.toNat ++ 120 :: numL m.toNat := h
      have n120 : ¬ dg 120 := by unfold dg; omega
      obtain ⟨a, _, b⟩ := num_split n120 n120 h
      have b := numL_inj b
      have c1 := con_nn hL
      have c2 := con_nn hM
      rw [show w = v by omega, show n = m by omega]
  | pol ns =>
    cases M with
    | con v m => exact absurd (h.symm ▸ con_has (w := v) (n := m)) pol_no
    | pol ms =>
      cases ns with
      | nil =>
        cases ms with
        | nil => rfl
        | cons m ms => exact absurd h.symm pol_dash
      | cons n ns =>
        cases ms with
        | nil => exact absurd h pol_dash
        | cons m ms =>
          have h : TL.joinL [44] (numsL (n :: ns)) = TL.joinL [44] (numsL (m :: ms)) := h
          have a := spl_join (s := 44) (S := []) (parts := numsL (n :: ns)) (fun z => nomatch z) (nums_free (.inl (by decide)) _)
          have b := spl_join (s := 44) (S := []) (parts := numsL (m :: ms)) (fun z => nomatch z) (nums_free (.inl (by decide)) _)
          rw [h, b] at a
          rw [nums_inj (pol_nn hL) (pol_nn hM) a.symm]
theorem shows_free (Ls : List Lay) : ∀ p ∈ Ls.map showL, 32 ∉ p := fun p hp h => by
  obtain ⟨L, _, rfl⟩ := List.mem_map.mp hp
  rcases showL_signs h with z | z | z | z
  · unfold dg at z; omega
  · omega
  · omega
  · omega
theorem shows_inj : ∀ {Ls Ms : List Lay}, (∀ L ∈ Ls, L.ok = true) → (∀ L ∈ Ms, L.ok = true) → Ls.map showL = Ms.map showL → Ls = Ms
  | [], [], _, _, _ => rfl
  | [], _ :: _, _, _, h => by cases h
  | _ :: _, [], _, _, h => by cases h
  | L :: Ls, M :: Ms, hL, hM, h => by
    have h : showL L :: Ls.map showL = showL M :: Ms.map showL := h
    injection h with h1 h2
    rw [showL_inj (hL L List.mem_cons_self) (hM M List.mem_cons_self) h1, shows_inj (fun x hx => hL x (List.mem_cons_of_mem _ hx)) (fun x hx => hM x (List.mem_cons_of_mem _ hx)) h2]
theorem show_none {L : Lay} {Ls : List Lay} : showN (L :: Ls) ≠ [110, 111, 110, 101] := fun h => by
  have h : TL.joinL [32, 47, 32] ((L :: Ls).map showL) = [110, 111, 110, 101] := h
  have m : (110 : Nat) ∈ TL.joinL [32, 47, 32] ((L :: Ls).map showL) := by rw [h]; exact List.mem_cons_self
  rcases joinL_mem m with z | ⟨p, hp, z⟩
  · simp at z
  · obtain ⟨M, _, rfl⟩ := List.mem_map.mp hp
    rcases showL_signs z with y | y | y | y
    · unfold dg at y; omega
    · omega
    · omega
    · omega
theorem showN_inj {Ls Ms : List Lay} (hL : ∀ L ∈ Ls, L.ok = true) (hM : ∀ L ∈ Ms, L.ok = true) (h : showN Ls = showN Ms) : Ls = Ms := by
  cases Ls with
  | nil =>
    cases Ms with
    | nil => rfl
    | cons M Ms => exact absurd h.symm show_none
  | cons L Ls =>
    cases Ms with
    | nil => exact absurd h show_none
    | cons M Ms =>
      have h : TL.joinL [32, 47, 32] ((L :: Ls).map showL) = TL.joinL [32, 47, 32] ((M :: Ms).map showL) := h
      have a := spl_join (s := 32) (S := [47, 32]) (parts := (L :: Ls).map showL) (fun z => nomatch z) (shows_free _)
      have b := spl_join (s := 32) (S := [47, 32]) (parts := (M :: Ms).map showL) (fun z => nomatch z) (shows_free _)
      rw [h, b] at a
      exact shows_inj hL hM a.symm
end Rn

set_option Elab.async false
set_option linter.all false
set_option maxRecDepth 100000
set_option maxHeartbeats 4000000
/-! # numbers of up to 4300 digits, written -/
namespace Rn
open PySem PySem.Spec PyProof.Rows L2 TL
section
variable {prog : Program} {w : World} {A : Around} {E : Value → Shared → Prop} {s : Shared}
/-- what the written part says: no limit of digits of its own -/
def NoDig (K : PySem.W.Frag) : Prop := PySem.W.nsIn K cStatics "sys.int_max_str_digits" = some none
theorem NoDig.at {K : PySem.W.Frag} {h : Heap} (n : NoDig K) (X : K.In h) (l : h.NoLimit) : h.NoDigits := by
  obtain ⟨mc, hns, _⟩ := l
  exact ⟨mc, hns, PySem.W.ns_none_of X hns n⟩
theorem int_repr_big {i : Int} {t : Tok} {Q : Value → Shared → Prop} (hn : s.heap.NoDigits) (hi : i.natAbs < 10 ^ 4300) (h : Q (.str (toString i) s.toks) { s with toks := s.toks + 1 }) :
    wpAny (model prog w) A (call (.builtin "int.__repr__") [.int i t]) Q E s := by
  refine wpAny_call (codeAny_call_builtin PySem.F.slot_int_repr.plain PySem.F.entry_int_repr (PySem.F.slot_int_repr.check _ _ _ _ _ _ _ _ (typeIs_int s i t) (PySem.F.args_int_repr_1 _) ?_))
  unfold Builtin.«int.__repr__»
  show wpAny _ _ (do let r ← Builtin.overDigitLimit? i; _) _ _ s
  refine wpAny_bind (overDigitLimit_any hn (fun _ => ?_) (fun hge => absurd hi (Nat.not_lt.mpr hge)))
  refine wpAny_bind (wpAny_mkStr (wpAny_pure ?_) (int_text_fits10 hi))
  exact h
theorem repr_big {i : Int} {t : Tok} {Q : Value → Shared → Prop} (hu : A.units + 1 < cLine) (hn : s.heap.NoDigits) (hi : i.natAbs < 10 ^ 4300) (h : Q (.str (toString i) s.toks) { s with toks := s.toks + 1 }) :
    wpAny (model prog w) A (call (.builtin "repr") [.int i t]) Q E s :=
  call_repr_slot hu (typeIs_int s i t) PySem.F.slot_int_repr.toG (int_repr_big hn hi ⟨_, _, rfl, h⟩)
/-- such a number in a list -/
theorem reprK_big {h₀ : Heap} {as : List Addr} {d : Nat} {i : Int} {t : Tok} (hn : h₀.NoDigits) (hi : i.natAbs < 10 ^ 4300) : ReprK prog w as h₀ d (.int i t) (toString i) := fun base hb A g E s Q _ _ hu hk hQ => by
  have hn' : base ≤ sizeLine := by omega
  rw [pyReprUnder_leaf (v := .int i t) hn' (fun _ e => nomatch e)]
  unfold pyRepr
  exact wpAny_bind (wpAny_pyReprObj_slot (by omega) (typeIs_int s i t) PySem.F.slot_int_repr.toG (int_repr_big (hn.keeps hk) hi ⟨_, _, rfl, wpAny_pure (hQ s.heap _ fun _ _ e => e)⟩))
end
theorem shown_ints : ∀ ns : List Int, PyData.shownAll (ns.map PyData.int) = ns.map fun n => Str.ofString (toString n)
  | [] => by simp only [List.map_nil, PyData.shownAll]
  | n :: ns => by
    rw [List.map_cons, List.map_cons, ← shown_ints ns]
    simp only [PyData.shownAll, PyData.shown]
section
variable {X : Cx}
/-- repr of a whole number -/
theorem call_reprN {k : Nat} (nd : NoDig X.K) (hr : Room k X.A) : CallR X (.builtin "repr") (fun xs H Q => ∃ i : Int, xs = [.int i] ∧ i.natAbs < 10 ^ 4300 ∧ Q (.str (toString i)) H) := by
  intro pins s σ H xs us Q I r h
  obtain ⟨i, rfl, hi, q⟩ := h
  obtain ⟨u, rfl, t, rfl⟩ := vals1 r
  exact repr_big (by have := hr.un; omega) (nd.at I.kIn I.nolimit) hi ⟨.str (toString i), H, I.tok _, ⟨_, rfl⟩, q⟩
/-- repr of a list of whole numbers -/
theorem call_reprL {k : Nat} (nd : NoDig X.K) (hg : X.A.guards = some []) (hr : Room k X.A) : CallR X (.builtin "repr") (fun xs H Q => ∃ (p : Addr) (ns : List Int), xs = [.ref p] ∧ H p = some (.lst (ns.map V.int)) ∧ (∀ x ∈ ns, x.natAbs < 10 ^ 4300) ∧
    (PyData.shown (dInts ns)).length ≤ sizeLine ∧ Q (.str (PyData.shown (dInts ns))) H) := by
  intro pins s σ H xs us Q I r h
  obtain ⟨p, ns, rfl, hp, hb, hz, q⟩ := h
  obtain ⟨u, rfl, rp⟩ := vals1 r
  obtain rfl : u = Value.ref p := rp
  obtain ⟨its, rv, pl, _⟩ := I.list (sql hp)
  obtain ⟨oa, ho, hc, na, hd⟩ := pl.isList
  have hu := hr.un
  have hS : PyData.shown (dInts ns) = listText (PyData.shownAll (ns.map PyData.int)) := by
    show PyData.shown (.list (ns.map PyData.int)) = _
    simp only [PyData.shown]
  refine call_repr_slot (by omega) ⟨oa, ho, hc⟩ PySem.F.slot_list_repr.toG ?_
  have fin : ∀ h' u tk, (∀ b o, s.heap.get? b = some o → h'.get? b = some o) → ∃ x t, (Value.str (listText (PyData.shownAll (ns.map PyData.int))) u) = Value.str x t ∧ EP X pins σ Q (.str (listText (PyData.shownAll (ns.map PyData.int))) u) { s with heap := h', toks := tk } := fun h' u tk hk =>
    ⟨_, _, rfl, .str (listText (PyData.shownAll (ns.map PyData.int))), H, I.kept (t' := tk) hk, ⟨u, rfl⟩, by rw [← hS]; exact q⟩
  rw [hS] at hz
  rw [shown_ints] at hz fin
  cases its with
  | nil =>
    cases ns with
    | nil => exact call_list_repr_empty ⟨oa, ho, hc⟩ ho hd (fin s.heap _ _ fun _ _ e => e)
    | cons n ns => exact nomatch rv
  | cons y its =>
    refine call_list_reprK (h₀ := s.heap) (as := []) (d := 0) ho hc hd (by simp) ?_ (fun i v hv => ?_) (show X.A.in1.guards = some [] from hg) (fun b _ => Clear.nil b) (by show X.A.units + 1 + (0 + 1) < cLine; omega) (fun _ _ e => e) fin hz
    · have := rv.length
      rw [List.length_map] at this
      rw [List.length_map, List.size_toArray, ← this]
    · have hv' : (y :: its)[i]? = some v := by simpa using hv
      have hi : i < ns.length := by
        have := rv.length
        rw [List.length_map] at this
        rw [this]
        exact (List.getElem?_eq_some_iff.mp hv').1
      obtain ⟨u, hu', ru⟩ := rv.get (i := i) (x := .int ns[i]) (by rw [List.getElem?_map, List.getElem?_eq_getElem hi]; rfl)
      rw [hv'] at hu'
      cases hu'
      obtain ⟨t, rfl⟩ := (show ∃ t, v = Value.int ns[i] t from ru)
      exact ⟨Str.ofString (toString ns[i]), by rw [List.getElem?_map, List.getElem?_eq_getElem hi]; rfl, reprK_big (nd.at I.kIn I.nolimit) (hb _ (List.getElem_mem hi))⟩
end
open PySem.Calls PySem.NumText PySem.W in
section
theorem wp_maxDigits {M : Model} {A : Around} {E : Value → Shared → Prop} {s : Shared} {Q : Nat → Shared → Prop} (hn : s.heap.NoDigits) (h : Q 4300 s) : wpAny M A Builtin.intMaxStrDigits Q E s := by
  obtain ⟨mc, hns, hnone⟩ := hn
  unfold Builtin.intMaxStrDigits
  refine wpAny_bind (wpAny_nsGet hns ?_)
  rw [hnone]
  exact wpAny_pure h
theorem wp_textB {M : Model} {A : Around} {E : Value → Shared → Prop} {s : Shared} {Q : Value → Shared → Prop} {v : Value} {text : List Nat} {n : Int} (hn : s.heap.NoDigits)
    (hs : ¬ (text.takeWhile (· != 0)).length ≤ 640) (hr : (int_private% "readNumeral") 4300 10 (text.takeWhile (· != 0)) = (int_private% "Numeral.value") n)
    (ha : ((text.takeWhile (· != 0)).length == text.length) = true) (h : Q (.int n s.toks) { s with toks := s.toks + 1 }) :
    wpAny M A ((int_private% "intFromText") v text 10) Q E s := by
  obtain ⟨hp, g, d, tk, os⟩ := s
  repeat (any_goals (first
    | assumption
    | (with_reducible refine wp_maxDigits hn ?_)
    | (with_reducible refine wpAny_ite_false (decide_eq_false hs) ?_)
    | (with_reducible refine wpAny_ite_true (decide_eq_true ha) ?_)
    | wp_step))
  all_goals (try rw [hr])
  all_goals (try dsimp only)
  repeat (any_goals (first
    | assumption
    | (with_reducible refine wpAny_ite_true (decide_eq_true ha) ?_)
    | wp_step))
structure Hid2 (p : Prop) : Prop where
  out : p
theorem meets_textB {x : PySem.Str} {u : Tok} {n : Int} (hx : x.length ≤ sizeLine) (hn : PySem.intText? x = some n) :
    Meets (Builtin.«int.__new__» ⟨[.type "int", .str x u], []⟩) (fun A R s => s.heap.NoDigits ∧ R (.ok (.ret (.int n s.toks))) { s with toks := s.toks + 1 }) := fun prog w A R s ⟨hd, h⟩ => by
  obtain ⟨hp, g, d, tk, os⟩ := s
  have f1 := F.conv_sub_int
  have f2 := F.madeHere_int
  have f3 := KIN.str_int
  have f4 := KIN.str_idx
  have f5 := KIN.str_trunc
  have f6 : typeOf (.str x u) = pure (.type "str") := rfl
  by_cases hs : (numSeenOf x).length ≤ 640
  · have hr : (int_private% "readNumeral") 0 10 (numSeenOf x) = (int_private% "Numeral.value") n ∧ ((numSeenOf x).length == (numTextOf x).length) = true := by
      rcases read0 x hs with ⟨m, h1, h2, h3⟩ | ⟨h1, _⟩
      · rw [hn] at h1
        injection h1 with h1
        subst h1
        exact ⟨h3, h2⟩
      · rw [hn] at h1
        cases h1
    have hk := Hid2.mk (And.intro hs hr)
    clear hs hr hx hn hd
    repeat (any_goals (first
      | assumption
      | ((with_reducible show wpAny _ _ ((int_private% "intFromText") _ _ _) _ _ _); refine KIN.wp_text hk.out.1 hk.out.2.1 hk.out.2.2 ?_)
      | wp_step))
    all_goals first | exact h | exact ⟨_, rfl, h⟩ | skip
  · have hr : (int_private% "readNumeral") 4300 10 (numSeenOf x) = (int_private% "Numeral.value") n ∧ ((numSeenOf x).length == (numTextOf x).length) = true := by
      rcases read4300 x hx with ⟨m, h1, h2, h3⟩ | ⟨h1, _⟩
      · rw [hn] at h1
        injection h1 with h1
        subst h1
        exact ⟨h3, h2⟩
      · rw [hn] at h1
        cases h1
    have hk := Hid2.mk (And.intro hs (And.intro hr hd))
    clear hs hr hx hn hd
    repeat (any_goals (first
      | assumption
      | ((with_reducible show wpAny _ _ ((int_private% "intFromText") _ _ _) _ _ _); refine wp_textB hk.out.2.2 hk.out.1 hk.out.2.1.1 hk.out.2.1.2 ?_)
      | wp_step))
    all_goals first | exact h | exact ⟨_, rfl, h⟩ | skip
end
section
variable {X : Cx}
/-- int of a text of at most 4300 digits -/
theorem call_int_strB (nd : NoDig X.K) : CallR X (.type "int") (fun xs H Q => ∃ a n, xs = [.str a] ∧ PySem.intText? a = some n ∧ a.length ≤ sizeLine ∧ Q (.int n) H) := by
  intro pins s σ H xs us Q I rs h
  obtain ⟨a, n, rfl, hn, hl, q⟩ := h
  obtain ⟨u, rfl, t, rfl⟩ := vals1 rs
  exact PySem.call_int_1 (meets_textB hl hn) ⟨nd.at I.kIn I.nolimit, rfl, ⟨.int n, H, I.tok _, ⟨_, rfl⟩, q⟩⟩
end
/-- layers whose texts are written and read here -/
def Txb (L : Lay) : Prop := L.ok = true ∧ (showL L).length ≤ 10000 ∧ match L with
  | .pol ns => ns.length ≤ 2000 ∧ ∀ x ∈ ns, (numL x.toNat).length ≤ 2000
  | .con w n => (numL w.toNat).length ≤ 2000 ∧ (numL n.toNat).length ≤ 2000
theorem fold_lt : ∀ (l : List Nat) (acc : Nat), NumText.AllDigits l → l.foldl (fun v c => v * 10 + (c - 48)) acc < (acc + 1) * 10 ^ l.length
  | [], acc, _ => by simp
  | c :: l, acc, h => by
    have ih := fold_lt l (acc * 10 + (c - 48)) fun x hx => h x (List.mem_cons_of_mem _ hx)
    have hc : c - 48 ≤ 9 := by
      have := h c List.mem_cons_self
      omega
    refine Nat.lt_of_lt_of_le ih ?_
    rw [List.length_cons, Nat.pow_succ, Nat.mul_comm (10 ^ l.length) 10, ← Nat.mul_assoc]
    exact Nat.mul_le_mul_right _ (by omega)
theorem num_lt {n k : Nat} (h : (numL n).length ≤ k) : n < 10 ^ k := by
  have := fold_lt (numL n) 0 (numL_digits n)
  have e : (numL n).foldl (fun v c => v * 10 + (c - 48)) 0 = n := numL_val n
  rw [e, Nat.zero_add, Nat.one_mul] at this
  exact Nat.lt_of_lt_of_le this (Nat.pow_le_pow_right (by decide) h)
theorem num_fits {x : Int} (h0 : 0 ≤ x) (h : (numL x.toNat).length ≤ 2000) : x.natAbs < 10 ^ 4300 := by
  have a := num_lt h
  have e : x.natAbs = x.toNat := by omega
  rw [e]
  exact Nat.lt_of_lt_of_le a (Nat.pow_le_pow_right (by decide) (by decide))
/-! ## texts of digits -/
theorem fold_app : ∀ (l : List (Array Nat)) (acc : Array Nat), (l.foldl (· ++ ·) acc).toList = acc.toList ++ (l.map Array.toList).flatten
  | [], acc => by simp
  | x :: l, acc => by
    rw [List.foldl_cons, fold_app l]
    simp
theorem tl_mul {x : Str} {n : Nat} (hn : 2 ≤ n) (hx : x.length ≠ 0) : tl (Txt.mul x (n : Int)) = (List.replicate n (tl x)).flatten := by
  have e : (((n : Int) == 1) || x.length == 0) = false := by
    rw [Bool.or_eq_false_iff]
    exact ⟨beq_eq_false_iff_ne.mpr (by omega), beq_eq_false_iff_ne.mpr hx⟩
  unfold Txt.mul
  rw [if_neg (by omega), e, if_neg Bool.false_ne_true]
  show ((List.replicate (n : Int).toNat x.cps).foldl (· ++ ·) #[]).toList = _
  rw [fold_app, Int.toNat_natCast, List.map_replicate]
  rfl
/-- a text fifty times -/
theorem op_mul50 {X : Cx} : OpR X (binaryOp .Mult) (fun x y H Q => ∃ a : Str, x = .str a ∧ y = .int 50 ∧ a.length ≠ 0 ∧ a.length ≤ 1000 ∧ ∀ z : Str, tl z = (List.replicate 50 (tl a)).flatten → Q (.str z) H) := by
  intro pins s σ H x y v u Q I rx ry h
  obtain ⟨a, rfl, rfl, h0, h1, q⟩ := h
  obtain ⟨t, rfl⟩ := rx
  obtain ⟨t', rfl⟩ := ry
  exact PySem.SB.mul (n := 50) (mulOk_of 1000 50 h1 (by decide) (by decide) (by decide) (by decide)) fun t' k => ⟨.str (Txt.mul a 50), H, I.tok k, ⟨_, rfl⟩, q _ (tl_mul (n := 50) (by decide) h0)⟩
theorem at_nat {xs : List Nat} {lo hi : Nat} {i : Int} (h : ∀ c ∈ xs, lo ≤ c ∧ c ≤ hi) (h0 : 0 ≤ i) (h1 : i < xs.length) : ∃ c, atI xs i = some c ∧ lo ≤ c ∧ c ≤ hi := by
  obtain ⟨j, rfl⟩ : ∃ j : Nat, i = (j : Int) := ⟨i.toNat, by omega⟩
  have hj : j < xs.length := by omega
  exact ⟨xs[j], atI_nat (List.getElem?_eq_getElem hj), h _ (List.getElem_mem hj)⟩
theorem cut_first {z : Str} {m : Nat} : tl (cutS z none (some (m : Int))) = (tl z).take m := by
  have e := cut_n ((tl z).map fun c => V.int ((c : Nat) : Int)) m
  unfold cutV at e
  have l : ((tl z).map fun c => V.int ((c : Nat) : Int)).length = z.length := by rw [List.length_map, ← len_tl]
  rw [l] at e
  unfold cutS
  show ((tl z).drop (HT.sIx z.length 0 none)).take _ = _
  have e2 := congrArg (fun l => l.map fun v => match v with | .int i => i.toNat | _ => 0) e
  simp only [← List.map_drop, ← List.map_take, List.map_map] at e2
  have id1 : ((fun v => match v with | V.int i => i.toNat | _ => 0) ∘ fun c : Nat => V.int (c : Int)) = id := by
    funext c
    show ((c : Int)).toNat = c
    exact Int.toNat_natCast c
  rw [id1, List.map_id, List.map_id] at e2
  exact e2
theorem fold_ge : ∀ (l : List Nat) (acc : Nat), acc ≤ l.foldl (fun v c => v * 10 + (c - 48)) acc
  | [], acc => Nat.le_refl _
  | c :: l, acc => Nat.le_trans (by omega) (fold_ge l (acc * 10 + (c - 48)))
/-- the number of such a text -/
theorem long_int {x : Str} {c : Nat} {cs : List Nat} (e : tl x = c :: cs) (hc : 49 ≤ c ∧ c ≤ 57) (h : ∀ y ∈ cs, 48 ≤ y ∧ y ≤ 57) (l : cs.length < 2000) : ∃ n : Nat, PySem.intText? x = some (n : Int) ∧ 1 ≤ n ∧ (numL n).length ≤ 2000 := by
  have dg : NumText.AllDigits (c :: cs) := fun y hy => by
    rcases List.mem_cons.mp hy with rfl | hy
    · omega
    · exact h y hy
  have hS : x = SX.S (c :: cs) := ext_tl e
  refine ⟨NumText.digitsVal (c :: cs), ?_, ?_, ?_⟩
  · rw [hS]
    exact SX.int_S (List.all_eq_true.mpr fun y hy => by have := dg y hy; simp [this.1, this.2]) (by simp) (by rw [List.length_cons]; omega)
  · show 1 ≤ (c :: cs).foldl (fun v c => v * 10 + (c - 48)) 0
    exact Nat.le_trans (by omega) (fold_ge cs (0 * 10 + (c - 48)))
  · have := fold_lt (c :: cs) 0 dg
    rw [Nat.zero_add, Nat.one_mul] at this
    exact numL_len (by decide) (Nat.lt_of_lt_of_le this (Nat.pow_le_pow_right (by decide) (by rw [List.length_cons]; omega)))
end Rn


namespace Rn
open PySem PySem.Spec PyProof.Rows L2
/-! ## the text -/
def topS (i : Nat) : Stmt := PySem.Challenge.pw_retrynest_k41_nestings_read.main.body.getD i (.Pass ⟨0, 0, 0, 0⟩)
abbrev s_first_negative : Stmt := topS 4
abbrev s_is_valid_layer : Stmt := topS 5
abbrev s_is_number : Stmt := topS 8
abbrev s_read_numbers : Stmt := topS 9
abbrev s_read_constant : Stmt := topS 10
abbrev s_read_layer : Stmt := topS 11
abbrev s_read_nesting : Stmt := topS 12
abbrev s_law_source : Stmt := topS 14
abbrev s_law_draw : Stmt := topS 15
abbrev s_law_same : Stmt := topS 16
abbrev s_law_number_drawn : Stmt := topS 17
abbrev s_law_any_nesting : Stmt := topS 18
abbrev s_law_shown : Stmt := topS 19
abbrev s_law_long : Stmt := topS 20
abbrev s_law : Stmt := topS 21
theorem sc_first_negative : FnScope ["waits", "index", "wait"] ["waits"] (defScope s_first_negative) := ⟨rfl, rfl, rfl, by decide +kernel, rfl, by decide +kernel, by decide +kernel⟩
theorem sc_is_valid_layer : FnScope ["layer", "wait", "count"] ["layer"] (defScope s_is_valid_layer) := ⟨rfl, rfl, rfl, by decide +kernel, rfl, by decide +kernel, by decide +kernel⟩
theorem sc_is_number : FnScope ["text"] ["text"] (defScope s_is_number) := ⟨rfl, rfl, rfl, by decide +kernel, rfl, by decide +kernel, by decide +kernel⟩
theorem sc_read_numbers : FnScope ["words", "word"] ["words"] (defScope s_read_numbers) := ⟨rfl, rfl, rfl, by decide +kernel, rfl, by decide +kernel, by decide +kernel⟩
theorem sc_read_constant : FnScope ["text", "numbers", "layer"] ["text"] (defScope s_read_constant) := ⟨rfl, rfl, rfl, by decide +kernel, rfl, by decide +kernel, by decide +kernel⟩
theorem sc_read_layer : FnScope ["text"] ["text"] (defScope s_read_layer) := ⟨rfl, rfl, rfl, by decide +kernel, rfl, by decide +kernel, by decide +kernel⟩
theorem sc_read_nesting : FnScope ["text", "layers", "part"] ["text"] (defScope s_read_nesting) := ⟨rfl, rfl, rfl, by decide +kernel, rfl, by decide +kernel, by decide +kernel⟩
theorem sc_law_source : FnScope ["script", "mix", "digits", "cell", "size"] ["script"] (defScope s_law_source) := ⟨rfl, rfl, rfl, by decide +kernel, rfl, by decide +kernel, by decide +kernel⟩
theorem sc_law_draw : FnScope ["source", "many", "drawn", "mixed"] ["source", "many"] (defScope s_law_draw) := ⟨rfl, rfl, rfl, by decide +kernel, rfl, by decide +kernel, by decide +kernel⟩
theorem sc_law_same : FnScope ["found", "wanted", "k"] ["found", "wanted"] (defScope s_law_same) := ⟨rfl, rfl, rfl, by decide +kernel, rfl, by decide +kernel, by decide +kernel⟩
theorem sc_law_number_drawn : FnScope ["source", "top"] ["source", "top"] (defScope s_law_number_drawn) := ⟨rfl, rfl, rfl, by decide +kernel, rfl, by decide +kernel, by decide +kernel⟩
theorem sc_law_any_nesting : FnScope ["source", "found", "k", "many", "numbers", "size", "one"] ["source"] (defScope s_law_any_nesting) := ⟨rfl, rfl, rfl, by decide +kernel, rfl, by decide +kernel, by decide +kernel⟩
theorem sc_law_shown : FnScope ["layers", "found", "layer"] ["layers"] (defScope s_law_shown) := ⟨rfl, rfl, rfl, by decide +kernel, rfl, by decide +kernel, by decide +kernel⟩
theorem sc_law_long : FnScope ["source", "size", "digits", "one"] ["source"] (defScope s_law_long) := ⟨rfl, rfl, rfl, by decide +kernel, rfl, by decide +kernel, by decide +kernel⟩
theorem sc_law : FnScope ["script", "source", "k", "turn", "layers", "words", "time", "found", "part", "one"] ["script"] (defScope s_law) := ⟨rfl, rfl, rfl, by decide +kernel, rfl, by decide +kernel, by decide +kernel⟩
/-! ## what the top has written -/
structure Txt (K : PySem.W.Frag) (mg : Str → Option Value) where
  f_first_negative : Addr
  d_first_negative : FuncData
  F_first_negative : Fun K "first_negative" "first_negative" s_first_negative f_first_negative d_first_negative
  g_first_negative : mg "first_negative" = some (.ref f_first_negative)
  b_first_negative : Binds K d_first_negative ["waits"] []
  f_is_valid_layer : Addr
  d_is_valid_layer : FuncData
  F_is_valid_layer : Fun K "is_valid_layer" "is_valid_layer" s_is_valid_layer f_is_valid_layer d_is_valid_layer
  g_is_valid_layer : mg "is_valid_layer" = some (.ref f_is_valid_layer)
  b_is_valid_layer : Binds K d_is_valid_layer ["layer"] []
  f_is_number : Addr
  d_is_number : FuncData
  F_is_number : Fun K "is_number" "is_number" s_is_number f_is_number d_is_number
  g_is_number : mg "is_number" = some (.ref f_is_number)
  b_is_number : Binds K d_is_number ["text"] []
  f_read_numbers : Addr
  d_read_numbers : FuncData
  F_read_numbers : Fun K "read_numbers" "read_numbers" s_read_numbers f_read_numbers d_read_numbers
  g_read_numbers : mg "read_numbers" = some (.ref f_read_numbers)
  b_read_numbers : Binds K d_read_numbers ["words"] []
  f_read_constant : Addr
  d_read_constant : FuncData
  F_read_constant : Fun K "read_constant" "read_constant" s_read_constant f_read_constant d_read_constant
  g_read_constant : mg "read_constant" = some (.ref f_read_constant)
  b_read_constant : Binds K d_read_constant ["text"] []
  f_read_layer : Addr
  d_read_layer : FuncData
  F_read_layer : Fun K "read_layer" "read_layer" s_read_layer f_read_layer d_read_layer
  g_read_layer : mg "read_layer" = some (.ref f_read_layer)
  b_read_layer : Binds K d_read_layer ["text"] []
  f_read_nesting : Addr
  d_read_nesting : FuncData
  F_read_nesting : Fun K "read_nesting" "read_nesting" s_read_nesting f_read_nesting d_read_nesting
  g_read_nesting : mg "read_nesting" = some (.ref f_read_nesting)
  b_read_nesting : Binds K d_read_nesting ["text"] []
  f_law_source : Addr
  d_law_source : FuncData
  F_law_source : Fun K "_law_source" "_law_source" s_law_source f_law_source d_law_source
  g_law_source : mg "_law_source" = some (.ref f_law_source)
  b_law_source : Binds K d_law_source ["script"] []
  f_law_draw : Addr
  d_law_draw : FuncData
  F_law_draw : Fun K "_law_draw" "_law_draw" s_law_draw f_law_draw d_law_draw
  g_law_draw : mg "_law_draw" = some (.ref f_law_draw)
  b_law_draw : Binds K d_law_draw ["source", "many"] []
  f_law_same : Addr
  d_law_same : FuncData
  F_law_same : Fun K "_law_same" "_law_same" s_law_same f_law_same d_law_same
  g_law_same : mg "_law_same" = some (.ref f_law_same)
  b_law_same : Binds K d_law_same ["found", "wanted"] []
  f_law_number_drawn : Addr
  d_law_number_drawn : FuncData
  F_law_number_drawn : Fun K "_law_number_drawn" "_law_number_drawn" s_law_number_drawn f_law_number_drawn d_law_number_drawn
  g_law_number_drawn : mg "_law_number_drawn" = some (.ref f_law_number_drawn)
  b_law_number_drawn : Binds K d_law_number_drawn ["source", "top"] []
  f_law_any_nesting : Addr
  d_law_any_nesting : FuncData
  F_law_any_nesting : Fun K "_law_any_nesting" "_law_any_nesting" s_law_any_nesting f_law_any_nesting d_law_any_nesting
  g_law_any_nesting : mg "_law_any_nesting" = some (.ref f_law_any_nesting)
  b_law_any_nesting : Binds K d_law_any_nesting ["source"] []
  f_law_shown : Addr
  d_law_shown : FuncData
  F_law_shown : Fun K "_law_shown" "_law_shown" s_law_shown f_law_shown d_law_shown
  g_law_shown : mg "_law_shown" = some (.ref f_law_shown)
  b_law_shown : Binds K d_law_shown ["layers"] []
  f_law_long : Addr
  d_law_long : FuncData
  F_law_long : Fun K "_law_long" "_law_long" s_law_long f_law_long d_law_long
  g_law_long : mg "_law_long" = some (.ref f_law_long)
  b_law_long : Binds K d_law_long ["source"] []
  f_law : Addr
  d_law : FuncData
  F_law : Fun K "law" "law" s_law f_law d_law
  g_law : mg "law" = some (.ref f_law)
  b_law : Binds K d_law ["script"] []
  kb_read_nesting : KBinds K d_read_nesting ["text"] ["text"] kw1 kw1
  m_all : mg "all" = none
  m_bool : mg "bool" = none
  m_enumerate : mg "enumerate" = none
  m_int : mg "int" = none
  m_isinstance : mg "isinstance" = none
  m_len : mg "len" = none
  m_list : mg "list" = none
  m_max : mg "max" = none
  m_min : mg "min" = none
  m_range : mg "range" = none
  m_repr : mg "repr" = none
  m_str : mg "str" = none
  m_tuple : mg "tuple" = none
  t_MOST_DIGITS : Tok
  c_MOST_DIGITS : mg "MOST_DIGITS" = some (.int 2000 t_MOST_DIGITS)
  nd : NoDig K
end Rn
namespace Rn
open PySem PySem.Spec PyProof.Rows L2
section
variable {P : Program} {w : World} {K : PySem.W.Frag} {mg : Str → Option Value} {base : Heap}
/-- where the first negative one stands -/
def negAt (ns : List Int) : V := match ns.findIdx? (fun x => decide (x < 0)) with
  | none => .non
  | some i => .int (i : Nat)
theorem negAt_none {ns : List Int} (h : ∀ x ∈ ns, 0 ≤ x) : negAt ns = .non := by
  unfold negAt
  rw [List.findIdx?_eq_none_iff.mpr fun x hx => decide_eq_false (by have := h x hx; omega)]
def sp_first_negative (K : PySem.W.Frag) : Sp := fun vs H Q _ => ∃ (a : Addr) (ns : List Int), vs = [.ref a] ∧ SqL K H a (ns.map V.int) ∧ ∀ H', Same H H' → Q (negAt ns) H'
theorem ok_first_negative (T : Txt K mg) : FnOk P w K mg base CX0 1 T.f_first_negative T.d_first_negative ["waits"] (sp_first_negative K) := by
  refine T.F_first_negative.ok sc_first_negative (fun vs H Q E h => ?_) (fun cdv A outer s H vs Q E hr h => ?_)
  · obtain ⟨a, ns, rfl, _⟩ := h
    rfl
  obtain ⟨a, ns, rfl, hS, q⟩ := h
  refine ⟨_, (pss_cons (ps_for PassesOwn.never rfl (pi_enum (by rfl) T.m_enumerate (pa_cons (pv 0) pa_nil)) (pg_tup rfl (pgs_cons (pg_name (i := 1) sc_first_negative.nd rfl (Or.inl rfl)) (pgs_cons (pg_name (i := 2) sc_first_negative.nd rfl (Or.inl rfl)) pgs_nil)))
      (pss_one (ps_if (pt_cmpR op_lt (pv 2) pe_int (nomark _))
      (pss_one (ps_ret (pv 1)))
      pss_nil)))
      (pss_one (ps_ret pe_non))), ?_⟩
  -- the walk
  refine ⟨.ref a, rfl, a, ns.map V.int, rfl, hS, for_enum (fun i σ H' => (∃ y1 y2, σ = [some (.ref a), y1, y2]) ∧ Same H H' ∧ ∀ j : Nat, j < i → ∀ x, ns[j]? = some x → 0 ≤ x)
    ⟨⟨none, none, rfl⟩, Same.refl H, fun j hj => absurd hj (Nat.not_lt_zero j)⟩ (fun i σ H' _ h => h.2.1.seq hS) (fun i x σ H' t hx h nt => ?_) (fun σ H' h => ?_)⟩
  · obtain ⟨⟨y1, y2, rfl⟩, sm, hn⟩ := h
    obtain ⟨n, hx', rfl⟩ : ∃ n, ns[i]? = some n ∧ x = .int n := by
      rw [List.getElem?_map] at hx
      cases e : ns[i]? with
      | none => rw [e] at hx; cases hx
      | some n => rw [e] at hx; exact ⟨n, rfl, (Option.some.inj hx).symm⟩
    refine ⟨t, _, rfl, sqt upd_same, rfl, _, _, rfl, _, _, rfl, rfl, ?_⟩
    -- if wait < 0
    refine ⟨_, rfl, _, _, rfl, rfl, _, rfl, ite2 (fun e => ?_) (fun e => ?_)⟩
    · have e' : n < 0 := of_decide_eq_true e
      refine ⟨_, rfl, ?_⟩
      have hf : negAt ns = .int (i : Nat) := by
        unfold negAt
        have hi : i < ns.length := (List.getElem?_eq_some_iff.mp hx').1
        have : ns.findIdx? (fun x => decide (x < 0)) = some i := by
          rw [List.findIdx?_eq_some_iff_getElem]
          refine ⟨hi, ?_, fun j hj => ?_⟩
          · rw [(List.getElem?_eq_some_iff.mp hx').2]
            exact decide_eq_true e'
          · have hjl : j < ns.length := by omega
            have := hn j hj _ (List.getElem?_eq_getElem hjl)
            simp only [decide_eq_true_eq]
            omega
        rw [this]
      have := q (upd H' t (.tup [.int (i : Nat), .int n])) (sm.trans (same_new nt))
      rw [hf] at this
      exact this
    · refine ⟨⟨_, _, rfl⟩, sm.trans (same_new nt), fun j hj x hz => ?_⟩
      by_cases ej : j = i
      · subst ej
        rw [hx'] at hz
        cases hz
        have := of_decide_eq_false (Bool.eq_false_iff.mpr e)
        omega
      · exact hn j (by omega) x hz
  · obtain ⟨⟨y1, y2, rfl⟩, sm, hn⟩ := h
    have e : negAt ns = .non := negAt_none fun x hx => by
      obtain ⟨j, hj, e⟩ := List.getElem_of_mem hx
      exact hn j (by simpa using hj) x (by rw [← e]; exact List.getElem?_eq_getElem hj)
    have := q H' sm
    rw [e] at this
    exact this

end
end Rn
namespace Rn
open PySem PySem.Spec PyProof.Rows L2
section
variable {P : Program} {w : World} {K : PySem.W.Frag} {mg : Str → Option Value} {base : Heap}
def sp_is_valid_layer (K : PySem.W.Frag) : Sp := fun vs H Q _ => ∃ (v : V) (L : Lay), vs = [v] ∧ LayAt H v L ∧ ∀ H', Same H H' → Q (.bl L.ok) H'
theorem negAt_iff (ns : List Int) : decide (negAt ns = .non) = ns.all fun x => decide (0 ≤ x) := by
  by_cases h : ∀ x ∈ ns, 0 ≤ x
  · rw [negAt_none h, decide_eq_true rfl]
    symm
    rw [List.all_eq_true]
    exact fun x hx => decide_eq_true (h x hx)
  · have e : ns.all (fun x => decide (0 ≤ x)) = false := by
      rw [Bool.eq_false_iff]
      intro z
      rw [List.all_eq_true] at z
      exact h fun x hx => of_decide_eq_true (z x hx)
    rw [e]
    unfold negAt
    cases q : ns.findIdx? (fun x => decide (x < 0)) with
    | none =>
      rw [List.findIdx?_eq_none_iff] at q
      exact absurd (fun x hx => by have := of_decide_eq_false (q x hx); omega) h
    | some i => exact decide_eq_false fun z => nomatch z
theorem ok_is_valid_layer (T : Txt K mg) : FnOk P w K mg base CX0 2 T.f_is_valid_layer T.d_is_valid_layer ["layer"] (sp_is_valid_layer K) := by
  have G_first_negative := ok_first_negative (P := P) (w := w) (base := base) T
  refine T.F_is_valid_layer.ok sc_is_valid_layer (fun vs H Q E h => ?_) (fun cdv A outer s H vs Q E hr h => ?_)
  · obtain ⟨v, L, rfl, _⟩ := h
    rfl
  obtain ⟨v, L, rfl, hL, q⟩ := h
  refine ⟨_, (pss_cons (ps_if (pt_val (pe_callB call_isi (by rfl) T.m_isinstance (by decide +kernel) (pa_cons (pv 0) (pa_cons (pe_bltn (v := .ty "tuple") (by rfl) T.m_tuple (by decide +kernel) rfl) pa_nil))))
      (pss_cons (ps_asg (pv 0) (pg_tup rfl (pgs_cons (pg_name (i := 1) sc_is_valid_layer.nd rfl (Or.inl rfl)) (pgs_cons (pg_name (i := 2) sc_is_valid_layer.nd rfl (Or.inl rfl)) pgs_nil))))
      (pss_one (ps_ret (pe_and (pe_cmpR op_ge (pv 1) pe_int (nomark _)) (pe_one (pe_cmpR op_ge (pv 2) pe_int (nomark _)))))))
      pss_nil)
      (pss_one (ps_ret (pe_cmpR op_isN (pe_call G_first_negative hr (by rfl) T.g_first_negative T.F_first_negative.kp T.b_first_negative .nil pass0 (pa_cons (pv 0) pa_nil)) pe_non (nomark _))))), ?_⟩
  cases L with
  | con wt n =>
    obtain ⟨p, rfl, hp⟩ := hL
    refine ⟨_, rfl, _, _, _, _, true, rfl, .ty "tuple", .base (.tup hp), kit_ty (by decide +kernel), true, rfl, iteT ?_⟩
    refine ⟨_, rfl, p, _, rfl, sqt hp, rfl, _, _, rfl, _, _, rfl, rfl, ?_⟩
    refine ⟨_, rfl, _, _, rfl, rfl, _, rfl, ite2 (fun e => ?_) (fun e => ?_)⟩
    · refine ⟨_, rfl, _, _, rfl, rfl, ?_⟩
      have := q H (Same.refl H)
      rw [Lay.ok_con, e, Bool.true_and] at this
      exact this
    · have := q H (Same.refl H)
      rw [Lay.ok_con, Bool.eq_false_iff.mpr e, Bool.false_and] at this
      exact this
  | pol ns =>
    obtain ⟨p, rfl, hp⟩ := hL
    refine ⟨_, rfl, _, _, _, _, false, rfl, .ty "tuple", .base (.lst hp), kit_ty (by decide +kernel), false, rfl, iteF ?_⟩
    refine ⟨_, rfl, p, ns, rfl, sql hp, fun H' sm => ⟨rfl, ?_⟩⟩
    have := q H' sm
    rw [Lay.ok_pol, ← negAt_iff] at this
    exact this

end
end Rn
namespace Rn
open PySem PySem.Spec PyProof.Rows L2
section
variable {P : Program} {w : World} {K : PySem.W.Frag} {mg : Str → Option Value} {base : Heap}
def sp_is_number (K : PySem.W.Frag) : Sp := fun vs H Q _ => ∃ (t : Str) (n : Nat), vs = [.str t] ∧ TL.tl t = TL.numL n ∧ (TL.numL n).length ≤ 2000 ∧ Q (.bl true) H
theorem ok_is_number (T : Txt K mg) : FnOk P w K mg base CX0 1 T.f_is_number T.d_is_number ["text"] (sp_is_number K) := by
  refine T.F_is_number.ok sc_is_number (fun vs H Q E h => ?_) (fun cdv A outer s H vs Q E hr h => ?_)
  · obtain ⟨t, n, rfl, _⟩ := h
    rfl
  obtain ⟨t, n, rfl, et, n1, q⟩ := h
  have lt : t.length ≤ 2000 := by rw [TL.len_tl, et]; exact n1
  refine ⟨_, (pss_cons (ps_if (PW.pt (pw_or (pt_not (pt_val (pe_m0 PySem.F.slot_str_isascii PySem.F.type_str_isascii mt_isascii (pv 0)))) (pw_or (pt_not (pt_val (pe_m0 PySem.F.slot_str_isdigit PySem.F.type_str_isdigit mt_isdigit (pv 0)))) (pw_or1 (pt_cmpR op_gt (pe_callB call_len_str (by rfl) T.m_len PySem.boot_len (pa_cons (pv 0) pa_nil)) (pe_glob (v := .int 2000) rfl T.c_MOST_DIGITS ⟨_, rfl⟩) (nomark _))))))
      (pss_one (ps_ret pe_bl))
      pss_nil)
      (pss_one (ps_ret (pe_or (pe_cmpR op_eq (pv 0) pe_str (nomark _)) (pe_one (pe_not (pe_m1 PySem.F.slot_str_startswith PySem.F.type_str_startswith mt_startswith (pv 0) pe_str))))))), ?_⟩
  refine ⟨_, rfl, ⟨_, rfl⟩, t, rfl, rfl, trivial, ?_⟩
  rw [num_ascii et]
  refine ⟨_, rfl, iteF ?_⟩
  refine ⟨_, rfl, ⟨_, rfl⟩, t, rfl, rfl, trivial, ?_⟩
  rw [num_digit et]
  refine ⟨_, rfl, iteF ?_⟩
  refine ⟨_, rfl, t, rfl, size_leT (by omega), _, _, rfl, rfl, _, rfl, ite2 (fun e => absurd (of_decide_eq_true e) (by omega)) (fun _ => ?_)⟩
  refine ⟨_, rfl, rfl, ?_⟩
  by_cases z : t = Str.ofString "0"
  · refine ⟨true, by rw [z, decide_eq_true rfl], iteT q⟩
  · have nz : 1 ≤ n := by
      rcases Nat.eq_zero_or_pos n with y | y
      · exfalso
        apply z
        rw [y] at et
        exact TL.ext_tl et
      · exact y
    refine ⟨false, by rw [decide_eq_false fun y => z (V.str.inj y)], iteF ?_⟩
    refine ⟨_, rfl, ⟨_, rfl⟩, t, _, rfl, rfl, ?_⟩
    rw [num_start et nz]
    exact ⟨false, rfl, q⟩

end
end Rn
namespace Rn
open PySem PySem.Spec PyProof.Rows L2
section
variable {P : Program} {w : World} {K : PySem.W.Frag} {mg : Str → Option Value} {base : Heap}
def sp_read_numbers (K : PySem.W.Frag) : Sp := fun vs H Q _ => ∃ (p : Addr) (ts : List Str) (ns : List Int), vs = [.ref p] ∧ H p = some (.lst (ts.map V.str)) ∧ ts.map TL.tl = numsL ns ∧ (∀ x ∈ ns, 0 ≤ x ∧ (TL.numL x.toNat).length ≤ 2000) ∧ ns.length ≤ 2000 ∧
  ∀ H' r, Same H H' → H r = none → H' r = some (.lst (ns.map V.int)) → Q (.ref r) H'
theorem ok_read_numbers (T : Txt K mg) : FnOk P w K mg base CX0 2 T.f_read_numbers T.d_read_numbers ["words"] (sp_read_numbers K) := by
  have G_is_number := (ok_is_number (P := P) (w := w) (base := base) T)
  refine T.F_read_numbers.ok sc_read_numbers (fun vs H Q E h => ?_) (fun cdv A outer s H vs Q E hr h => ?_)
  · obtain ⟨p, ts, ns, rfl, _⟩ := h
    rfl
  obtain ⟨p, ts, ns, rfl, hp, et, bd, l4, q⟩ := h
  refine ⟨_, (pss_cons (ps_if (pt_not (pt_val (pe_callB (cr_all rfl) (by rfl) T.m_all (by decide +kernel) (pa_cons (pe_lc (own := [("word", 1)]) (g := gName 1) (tt := tYes) rfl sc_read_numbers.nd (pi_list (pv 0)) (blkOk_by (N := ["words", "word"]) (sc := defScope s_read_numbers) (by decide +kernel)) (fun _ _ _ _ _ => (pg_name (i := 1) sc_read_numbers.nd rfl (Or.inl rfl))) (fun _ _ _ _ _ => pts_nil) (fun _ _ _ _ _ => (pe_call G_is_number hr (by rfl) T.g_is_number T.F_is_number.kp T.b_is_number .nil pass0 (pa_cons (pv 1) pa_nil)))) pa_nil))))
      (pss_one (ps_ret pe_non))
      pss_nil)
      (pss_one (ps_ret (pe_lc (own := [("word", 1)]) (g := gName 1) (tt := tYes) rfl sc_read_numbers.nd (pi_list (pv 0)) (blkOk_by (N := ["words", "word"]) (sc := defScope s_read_numbers) (by decide +kernel)) (fun _ _ _ _ _ => (pg_name (i := 1) sc_read_numbers.nd rfl (Or.inl rfl))) (fun _ _ _ _ _ => pts_nil) (fun _ _ _ _ _ => (pe_callTy (call_int_strB T.nd) (by rfl) T.m_int (by decide +kernel) (pa_cons (pv 1) pa_nil))))))), ?_⟩
  have lt : ts.length = ns.length := by
    have := congrArg List.length et
    rw [List.length_map, numsL, List.length_map] at this
    exact this
  have get : ∀ (i : Nat) v, (ts.map V.str)[i]? = some v → ∃ t x, v = .str t ∧ ns[i]? = some x ∧ TL.tl t = TL.numL x.toNat ∧ 0 ≤ x ∧ (TL.numL x.toNat).length ≤ 2000 := fun i v hv => by
    rw [List.getElem?_map] at hv
    obtain ⟨t, ht, rfl⟩ := Option.map_eq_some_iff.mp hv
    have hi : i < ns.length := by rw [← lt]; exact (List.getElem?_eq_some_iff.mp ht).1
    have e1 : (ts.map TL.tl)[i]? = some (TL.tl t) := by rw [List.getElem?_map, ht]; rfl
    rw [et, numsL, List.getElem?_map, List.getElem?_eq_getElem hi] at e1
    have e2 := Option.some.inj e1
    have b := bd _ (List.getElem_mem hi)
    exact ⟨t, ns[i], rfl, List.getElem?_eq_getElem hi, e2.symm, b.1, b.2⟩
  refine ⟨_, rfl, p, rfl, ⟨_, sql hp⟩, fun D hD => ?_⟩
  refine lc_list (xs := ts.map V.str) (fun i H' => Same H H' ∧ H' D = some (.lst ((List.replicate i true).map V.bl))) ⟨same_new hD, upd_same⟩ (fun i H' _ h => sql (h.1 _ _ hp)) (fun i v H' hv h => ?_) (fun H' h => ?_)
  · obtain ⟨sm, eD⟩ := h
    have hi : i < ts.length := by have := (List.getElem?_eq_some_iff.mp hv).1; rw [List.length_map] at this; exact this
    obtain ⟨t, x, rfl, hx, ex, x0, x1⟩ := get i v hv
    refine ⟨rfl, yes_thn ⟨_, rfl, t, x.toNat, rfl, ex, x1, _, eD, size_lt (by rw [List.length_map, List.length_replicate]; omega), same_keep sm hD, ?_⟩⟩
    rw [upd_same, List.replicate_succ', List.map_append]
    rfl
  · obtain ⟨sm, eD⟩ := h
    rw [List.length_map] at eD
    refine ⟨D, List.replicate ts.length true, rfl, sql eD, ?_⟩
    rw [show (List.replicate ts.length true).all id = true from List.all_eq_true.mpr fun x hx => List.eq_of_mem_replicate hx]
    refine ⟨_, rfl, iteF ?_⟩
    refine ⟨_, rfl, p, rfl, ⟨_, sql (sm _ _ hp)⟩, fun r hr' => ?_⟩
    have rH : H r = none := sm.free hr'
    refine lc_list (xs := ts.map V.str) (fun i H2 => Same H' H2 ∧ H2 r = some (.lst ((ns.take i).map V.int))) ⟨same_new hr', upd_same⟩ (fun i H2 _ h => sql (h.1 _ _ (sm _ _ hp))) (fun i v H2 hv h => ?_) (fun H2 h => ?_)
    · obtain ⟨s2, er⟩ := h
      obtain ⟨t, x, rfl, hx, ex, x0, x1⟩ := get i v hv
      have nl := x1
      have lt' : t.length ≤ 2000 := by rw [TL.len_tl, ex]; exact nl
      have it := num_int ex (by omega)
      rw [show ((x.toNat : Nat) : Int) = x by omega] at it
      refine ⟨rfl, yes_thn ⟨_, rfl, t, x, rfl, it, size_leT (by omega), _, er, size_lt (by rw [List.length_map, List.length_take]; omega), same_keep s2 hr', ?_⟩⟩
      rw [upd_same, List.take_add_one, hx, Option.toList_some, List.map_append]
      rfl
    · obtain ⟨s2, er⟩ := h
      rw [List.length_map, lt, List.take_length] at er
      exact q H2 r (sm.trans s2) rH er

end
end Rn
namespace Rn
open PySem PySem.Spec PyProof.Rows L2
section
variable {P : Program} {w : World} {K : PySem.W.Frag} {mg : Str → Option Value} {base : Heap}
def sp_read_constant (K : PySem.W.Frag) : Sp := fun vs H Q _ => ∃ (t : Str) (a b : Int), vs = [.str t] ∧ TL.tl t = showL (.con a b) ∧ Txb (.con a b) ∧ ∀ H' r, Same H H' → H r = none → LayAt H' (.ref r) (.con a b) → Q (.ref r) H'
theorem ok_read_constant (T : Txt K mg) : FnOk P w K mg base CX0 3 T.f_read_constant T.d_read_constant ["text"] (sp_read_constant K) := by
  have G_read_numbers := (ok_read_numbers (P := P) (w := w) (base := base) T)
  have G_is_valid_layer := (ok_is_valid_layer (P := P) (w := w) (base := base) T)
  refine T.F_read_constant.ok sc_read_constant (fun vs H Q E h => ?_) (fun cdv A outer s H vs Q E hr h => ?_)
  · obtain ⟨t, a, b, rfl, _⟩ := h
    rfl
  obtain ⟨t, a, b, rfl, et, hx, q⟩ := h
  refine ⟨_, (pss_cons (ps_set (i := 1) sc_read_constant.nd rfl (Or.inl rfl) (pe_call G_read_numbers hr (by rfl) T.g_read_numbers T.F_read_numbers.kp T.b_read_numbers .nil pass0 (pa_cons (pe_split (pv 0) pe_str) pa_nil)))
      (pss_cons (ps_if (PW.pt (pw_or (pt_cmpR op_isN (pv 1) pe_non (nomark _)) (pw_or1 (pt_cmpR op_ne (pe_callB call_len_seq (by rfl) T.m_len PySem.boot_len (pa_cons (pv 1) pa_nil)) pe_int (nomark _)))))
      (pss_one (ps_ret pe_non))
      pss_nil)
      (pss_cons (ps_set (i := 2) sc_read_constant.nd rfl (Or.inl rfl) (pe_tup (pa_cons (pe_ix ix_list (pv 1) pe_int (fun _ _ => rfl)) (pa_cons (pe_ix ix_list (pv 1) pe_int (fun _ _ => rfl)) pa_nil))))
      (pss_one (ps_ret (pe_ifExp (pt_val (pe_call G_is_valid_layer hr (by rfl) T.g_is_valid_layer T.F_is_valid_layer.kp T.b_is_valid_layer .nil pass0 (pa_cons (pv 2) pa_nil))) (pv 2) pe_non)))))), ?_⟩
  obtain ⟨a0, b0⟩ := con_nn hx.1
  obtain ⟨a1, b1⟩ := hx.2.2
  have lt : t.length ≤ 10000 := by rw [TL.len_tl, et]; exact hx.2.1
  have sp := split_parts (t := t) (y := Str.ofString "x") (s := 120) (S := []) (parts := numsL [a, b]) rfl (by decide +kernel) et (fun z => nomatch z) (nums_free (.inr (by decide)) _)
  refine ⟨_, rfl, ⟨_, rfl⟩, t, _, rfl, rfl, by decide +kernel, by have := sizeLine_eq; omega, fun p hp => ?_⟩
  generalize Txt.split t (Str.ofString "x") = ts at *
  have s1 := same_new (o := .lst (ts.map V.str)) hp
  have e1 := upd_same (H := H) (a := p) (o := .lst (ts.map V.str))
  generalize upd H p (.lst (ts.map V.str)) = H1 at *
  refine ⟨p, ts, [a, b], rfl, e1, sp, fun x hx' => ?_, by show 2 ≤ 2000; decide, fun H2 r s2 _ e2 => ?_⟩
  · simp only [List.mem_cons, List.not_mem_nil, or_false] at hx'
    rcases hx' with rfl | rfl
    · exact ⟨a0, a1⟩
    · exact ⟨by omega, b1⟩
  refine ⟨_, rfl, rfl, false, rfl, iteF ?_⟩
  refine ⟨_, rfl, r, _, rfl, .inl (sql e2), rfl, _, rfl, ne_val rfl ?_⟩
  refine ⟨_, rfl, r, _, 0, _, rfl, rfl, sql e2, rfl, _, rfl, r, _, 1, _, rfl, rfl, sql e2, rfl, size_le (by show 2 ≤ 100000; decide), fun l hl => ?_⟩
  have s3 := same_new (o := .tup [.int a, .int b]) hl
  have e3 := upd_same (H := H2) (a := l) (o := .tup [.int a, .int b])
  generalize upd H2 l (.tup [.int a, .int b]) = H3 at *
  have ly : LayAt H3 (.ref l) (.con a b) := ⟨l, rfl, e3⟩
  refine ⟨_, rfl, .ref l, .con a b, rfl, ly, fun H4 s4 => ?_⟩
  rw [hx.1]
  exact ⟨_, rfl, iteT ⟨_, rfl, q H4 l (s1.trans (s2.trans (s3.trans s4))) ((s1.trans s2).free hl) (ly.same s4)⟩⟩

end
end Rn
namespace Rn
open PySem PySem.Spec PyProof.Rows L2
section
variable {P : Program} {w : World} {K : PySem.W.Frag} {mg : Str → Option Value} {base : Heap}
def sp_read_layer (K : PySem.W.Frag) : Sp := fun vs H Q _ => ∃ (t : Str) (L : Lay), vs = [.str t] ∧ TL.tl t = showL L ∧ Txb L ∧ ∀ H' r, Same H H' → H r = none → LayAt H' (.ref r) L → Q (.ref r) H'
theorem ok_read_layer (T : Txt K mg) : FnOk P w K mg base CX0 4 T.f_read_layer T.d_read_layer ["text"] (sp_read_layer K) := by
  have G_read_numbers := (ok_read_numbers (P := P) (w := w) (base := base) T).mono (by decide : 2 ≤ 3)
  have G_read_constant := (ok_read_constant (P := P) (w := w) (base := base) T)
  refine T.F_read_layer.ok sc_read_layer (fun vs H Q E h => ?_) (fun cdv A outer s H vs Q E hr h => ?_)
  · obtain ⟨t, L, rfl, _⟩ := h
    rfl
  obtain ⟨t, L, rfl, et, hx, q⟩ := h
  refine ⟨_, (pss_cons (ps_if (pt_cmpR op_eq (pv 0) pe_str (nomark _))
      (pss_one (ps_ret (pe_lst pa_nil)))
      pss_nil)
      (pss_cons (ps_if (pt_cmpR op_in_sign pe_str (pv 0) rfl)
      (pss_one (ps_ret (pe_call G_read_constant hr (by rfl) T.g_read_constant T.F_read_constant.kp T.b_read_constant .nil pass0 (pa_cons (pv 0) pa_nil))))
      pss_nil)
      (pss_one (ps_ret (pe_call G_read_numbers hr (by rfl) T.g_read_numbers T.F_read_numbers.kp T.b_read_numbers .nil pass0 (pa_cons (pe_split (pv 0) pe_str) pa_nil)))))), ?_⟩
  have lt : t.length ≤ 10000 := by rw [TL.len_tl, et]; exact hx.2.1
  have eq45 : t = Str.ofString "-" ↔ showL L = [45] := by
    constructor
    · intro z
      rw [z] at et
      exact et.symm
    · intro z
      exact TL.ext_tl (et.trans z)
  cases L with
  | con a b =>
    refine ⟨_, rfl, rfl, false, by rw [decide_eq_false fun z => con_dash (eq45.mp (V.str.inj z))], iteF ?_⟩
    refine ⟨_, rfl, 120, t, rfl, rfl, true, by rw [show decide (120 ∈ t.cps.toList) = true from decide_eq_true (by show 120 ∈ TL.tl t; rw [et]; exact con_has)], iteT ?_⟩
    exact ⟨_, rfl, t, a, b, rfl, et, hx, fun H' r s f l => q H' r s f l⟩
  | pol ns =>
    cases ns with
    | nil =>
      refine ⟨_, rfl, rfl, true, by rw [decide_eq_true (by rw [eq45.mpr rfl])], iteT ?_⟩
      exact ⟨Nat.zero_le _, fun r hr' => q _ r (same_new hr') hr' ⟨r, rfl, upd_same⟩⟩
    | cons n ns =>
      refine ⟨_, rfl, rfl, false, by rw [decide_eq_false fun z => pol_dash (eq45.mp (V.str.inj z))], iteF ?_⟩
      refine ⟨_, rfl, 120, t, rfl, rfl, false, by rw [show decide (120 ∈ t.cps.toList) = false from decide_eq_false (by show ¬ 120 ∈ TL.tl t; rw [et]; exact pol_no)], iteF ?_⟩
      have sp := split_parts (t := t) (y := Str.ofString ",") (s := 44) (S := []) (parts := numsL (n :: ns)) rfl (by decide +kernel) et (fun z => nomatch z) (nums_free (.inl (by decide)) _)
      refine ⟨_, rfl, ⟨_, rfl⟩, t, _, rfl, rfl, by decide +kernel, by have := sizeLine_eq; omega, fun p hp => ?_⟩
      generalize Txt.split t (Str.ofString ",") = ts at *
      have s1 := same_new (o := .lst (ts.map V.str)) hp
      have e1 := upd_same (H := H) (a := p) (o := .lst (ts.map V.str))
      generalize upd H p (.lst (ts.map V.str)) = H1 at *
      exact ⟨p, ts, n :: ns, rfl, e1, sp, fun x hx' => ⟨pol_nn hx.1 x hx', hx.2.2.2 x hx'⟩, hx.2.2.1, fun H2 r s2 f2 e2 => q H2 r (s1.trans s2) (s1.free f2) ⟨r, rfl, e2⟩⟩

end
end Rn
namespace Rn
open PySem PySem.Spec PyProof.Rows L2
section
variable {P : Program} {w : World} {K : PySem.W.Frag} {mg : Str → Option Value} {base : Heap}
def sp_read_nesting (K : PySem.W.Frag) : Sp := fun vs H Q _ => ∃ (t : Str) (Ls : List Lay), vs = [.str t] ∧ TL.tl t = showN Ls ∧ (∀ L ∈ Ls, Txb L) ∧ Ls.length ≤ 1000 ∧ ∀ H' r us, Same H H' → H r = none → NestV H H' r us Ls → Q (.ref r) H'
theorem ok_read_nesting (T : Txt K mg) : FnOk P w K mg base CX0 5 T.f_read_nesting T.d_read_nesting ["text"] (sp_read_nesting K) := by
  have G_read_layer := (ok_read_layer (P := P) (w := w) (base := base) T)
  refine T.F_read_nesting.ok sc_read_nesting (fun vs H Q E h => ?_) (fun cdv A outer s H vs Q E hr h => ?_)
  · obtain ⟨t, Ls, rfl, _⟩ := h
    rfl
  obtain ⟨t, Ls, rfl, et, hx, l20, q⟩ := h
  refine ⟨_, (pss_cons (ps_if (pt_cmpR op_eq (pv 0) pe_str (nomark _))
      (pss_one (ps_ret (pe_lst pa_nil)))
      pss_nil)
      (pss_cons (ps_setLc (i := 1) (own := [("part", 2)]) (g := gName 2) (tt := tYes) rfl sc_read_nesting.nd rfl rfl (sw_true rfl rfl rfl (by decide +kernel)) (pi_list (pe_split (pv 0) pe_str)) (blkOk_by (N := ["text", "layers", "part"]) (sc := defScope s_read_nesting) (by decide +kernel)) (fun _ _ _ _ _ => (pg_name (i := 2) sc_read_nesting.nd rfl (Or.inl rfl))) (fun _ _ _ _ _ => pts_nil) (fun _ _ _ _ _ => (pe_call G_read_layer hr (by rfl) T.g_read_layer T.F_read_layer.kp T.b_read_layer .nil pass0 (pa_cons (pv 2) pa_nil))))
      (pss_cons (ps_if (pt_cmpR (op_inD (units65 hr)) pe_non (pv 1) rfl)
      (pss_one ps_never)
      pss_nil)
      (pss_one (ps_ret (pv 1)))))), ?_⟩
  have eqn : t = Str.ofString "none" ↔ showN Ls = [110, 111, 110, 101] := by
    constructor
    · intro z
      rw [z] at et
      exact et.symm
    · intro z
      exact TL.ext_tl (et.trans z)
  cases Ls with
  | nil =>
    refine ⟨_, rfl, rfl, true, by rw [decide_eq_true (by rw [eqn.mpr rfl])], iteT ?_⟩
    exact ⟨Nat.zero_le _, fun r hr' => q _ r [] (same_new hr') hr' (NestV.nil upd_same)⟩
  | cons L Ls =>
    refine ⟨_, rfl, rfl, false, by rw [decide_eq_false fun z => show_none (eqn.mp (V.str.inj z))], iteF ?_⟩
    have lt : t.length ≤ 10003000 := by
      rw [TL.len_tl, et]
      have a := joinL_len (S := [32, 47, 32]) (B := 10000) (ps := (L :: Ls).map showL) fun p hp => by
        obtain ⟨M, hM, rfl⟩ := List.mem_map.mp hp
        exact (hx M hM).2.1
      rw [List.length_map] at a
      have e : (L :: Ls).length * (10000 + [32, 47, 32].length) ≤ 1000 * 10003 := Nat.mul_le_mul l20 (by decide)
      show (TL.joinL [32, 47, 32] ((L :: Ls).map showL)).length ≤ 10003000
      omega
    have sp := split_parts (t := t) (y := Str.ofString " / ") (s := 32) (S := [47, 32]) (parts := (L :: Ls).map showL) rfl (by decide +kernel) et (fun z => nomatch z) (shows_free _)
    refine ⟨_, rfl, ⟨_, rfl⟩, t, _, rfl, rfl, by decide +kernel, by have := sizeLine_eq; omega, fun p hp => ?_⟩
    generalize Txt.split t (Str.ofString " / ") = ts at *
    have s1 := same_new (o := .lst (ts.map V.str)) hp
    have e1 := upd_same (H := H) (a := p) (o := .lst (ts.map V.str))
    generalize upd H p (.lst (ts.map V.str)) = H1 at *
    have lts : ts.length = (L :: Ls).length := by
      have := congrArg List.length sp
      rw [List.length_map, List.length_map] at this
      exact this
    refine ⟨p, rfl, ⟨_, sql e1⟩, fun D hD => ?_⟩
    refine lc_list (xs := ts.map V.str) (fun i H' => ∃ us, Same H1 H' ∧ H' D = some (.lst us) ∧ Lays H' us ((L :: Ls).take i) ∧ ∀ x, V.ref x ∈ us → x ≠ D ∧ H x = none) ⟨[], same_new hD, upd_same, Lays.none _, (fun _ z => nomatch z)⟩ (fun i H' _ h => by obtain ⟨_, sm, _⟩ := h; exact sql (sm _ _ e1)) (fun i v H' hv h => ?_) (fun H' h => ?_)
    · obtain ⟨us, sm, eD, lu, uD⟩ := h
      rw [List.getElem?_map] at hv
      obtain ⟨u, hu, rfl⟩ := Option.map_eq_some_iff.mp hv
      have hi : i < (L :: Ls).length := by rw [← lts]; exact (List.getElem?_eq_some_iff.mp hu).1
      have hM := List.getElem?_eq_getElem hi
      have xm := hx _ (List.getElem_mem hi)
      have eu : TL.tl u = showL (L :: Ls)[i] := by
        have a : (ts.map TL.tl)[i]? = some (TL.tl u) := by rw [List.getElem?_map, hu]; rfl
        rw [sp, List.getElem?_map, hM] at a
        exact (Option.some.inj a).symm
      have tk : (L :: Ls).take (i + 1) = (L :: Ls).take i ++ [(L :: Ls)[i]] := by rw [List.take_add_one, hM]; rfl
      generalize (L :: Ls)[i] = M at *
      have lus : us.length ≤ 1000 := by
        have := lu.1
        rw [List.length_take] at this
        omega
      refine ⟨rfl, yes_thn ⟨_, rfl, u, M, rfl, eu, xm, fun H2 r s2 f2 ly => ?_⟩⟩
      have rD : r ≠ D := fun z => by rw [z, eD] at f2; cases f2
      have nb : ∀ x, V.ref x ∈ us ++ [V.ref r] → x ≠ D ∧ H x = none := fun x hx' => (List.mem_append.mp hx').elim (uD x) fun z => by
        have := List.mem_singleton.mp z
        injection this with this
        rw [this]
        exact ⟨rD, (s1.trans sm).free f2⟩
      refine ⟨_, s2 _ _ eD, size_lt (by omega), us ++ [.ref r], same_keep (sm.trans s2) hD, upd_same, ?_, nb⟩
      rw [tk]
      have l1 : Lays H2 [V.ref r] [M] := ⟨rfl, fun i v N x y => by
        cases i with
        | zero => cases x; cases y; exact ly
        | succ i => cases x⟩
      exact ((lu.same s2).app l1).carry fun y o hy ho => by rw [upd_ne (nb y hy).1]; exact ho
    · obtain ⟨us, sm, eD, lu, uD⟩ := h
      rw [List.length_map, lts, List.take_length] at lu
      have nN := lu.nest eD
      refine ⟨_, rfl, _, _, .non, dp_nest nN, by decide +kernel, shaped_lays _, _, rfl, ?_⟩
      rw [show ((L :: Ls).map Lay.dat).any (fun z => PyData.eqv z .none) = false from by
        rw [List.any_eq_false]
        intro d hd
        obtain ⟨M, _, rfl⟩ := List.mem_map.mp hd
        cases M <;> simp [Lay.dat, dInts, PyData.eqv]]
      exact iteF ⟨_, rfl, q H' D us (s1.trans sm) (s1.free hD) ⟨eD, lu.1, lu.2, uD⟩⟩

end
end Rn
namespace Rn
open PySem PySem.Spec PyProof.Rows L2
section
variable {P : Program} {w : World} {K : PySem.W.Frag} {mg : Str → Option Value} {base : Heap}
def sp_law_source (K : PySem.W.Frag) : Sp := fun vs H Q _ => ∃ (a : Addr) (ns : List Int), vs = [.ref a] ∧ SqL K H a (ns.map V.int) ∧ ns.length ≤ 63 ∧
  ∀ H' p d, Same H H' → H p = none → H d = none → Src H' p d 0 → Q (.ref p) H'
theorem ok_law_source (T : Txt K mg) : FnOk P w K mg base CX0 1 T.f_law_source T.d_law_source ["script"] (sp_law_source K) := by
  refine T.F_law_source.ok sc_law_source (fun vs H Q E h => ?_) (fun cdv A outer s H vs Q E hr h => ?_)
  · obtain ⟨a, ns, rfl, _⟩ := h
    rfl
  obtain ⟨a, ns, rfl, hS, hl, q⟩ := h
  refine ⟨_, (pss_cons (ps_set (i := 1) sc_law_source.nd rfl (Or.inl rfl) pe_int)
      (pss_cons (ps_set (i := 2) sc_law_source.nd rfl (Or.inl rfl) (pe_lst pa_nil))
      (pss_cons (ps_for PassesOwn.never rfl (pi_list (pv 0)) (pg_name (i := 3) sc_law_source.nd rfl (Or.inl rfl))
      (pss_cons (ps_set (i := 1) sc_law_source.nd rfl (Or.inl rfl) (pe_op op_mod (pe_op op_add (pe_op op_mul (pv 1) pe_int) (pv 3)) (pe_op op_sub (pe_op op_pow pe_int pe_int) pe_int)))
      (pss_cons (ps_set (i := 4) sc_law_source.nd rfl (Or.inl rfl) (pe_callB (call_max2 rfl) (by rfl) T.m_max (by decide +kernel) (pa_cons (pv 3) (pa_cons (pe_op op_sub pe_int (pv 3)) pa_nil))))
      (pss_one (ps_if (pt_cmpR op_ge (pv 4) (pe_op op_pow pe_int pe_int) (nomark _))
      (pss_one (ps_expr (pe_bm PySem.F.plainAttrs_list PySem.F.slot_list_append PySem.F.type_list_append mt_append (pv 2) (pa_cons (pe_op op_sub (pv 4) (pe_op op_pow pe_int pe_int)) pa_nil))))
      pss_nil)))))
      (pss_one (ps_ret (pe_lst (pa_cons (pv 2) (pa_cons pe_int (pa_cons (pv 1) (pa_cons pe_int pa_nil)))))))))), ?_⟩
  refine ⟨Nat.zero_le _, fun d hd => ?_⟩
  refine ⟨_, rfl, a, rfl, ⟨_, (same_new hd).seq hS⟩, for_list (xs := ns.map V.int) (fun i σ H' => ∃ mix y3 y4 ds, σ = [some (.ref a), some (.int mix), some (.ref d), y3, y4] ∧ 0 ≤ mix ∧ mix < 2305843009213693951 ∧ Same H H' ∧ H' d = some (.lst ((ds : List Int).map V.int)) ∧ ds.length ≤ i)
    ⟨271828182845904, none, none, [], rfl, by decide, by decide, same_new hd, upd_same, Nat.le_refl _⟩ (fun i σ H' _ h => by obtain ⟨_, _, _, _, _, _, _, sm, _⟩ := h; exact sm.seq hS) (fun i x σ H' hx h => ?_) (fun σ H' h => ?_)⟩
  · obtain ⟨mix, y3, y4, ds, rfl, m0, m1, sm, hds, hdl⟩ := h
    have hi : i < 63 := by
      have := (List.getElem?_eq_some_iff.mp hx).1
      rw [List.length_map] at this
      omega
    obtain ⟨n, rfl⟩ : ∃ n, x = .int n := by
      rw [List.getElem?_map] at hx
      cases e : ns[i]? with
      | none => rw [e] at hx; cases hx
      | some n => rw [e] at hx; exact ⟨n, (Option.some.inj hx).symm⟩
    have pm : (0 : Int) < 2 ^ (61 : Int).toNat - 1 := by decide
    have pe : (2 : Int) ^ (61 : Int).toNat - 1 = 2305843009213693951 := by decide
    -- mix = ..
    refine ⟨_, rfl, _, _, rfl, rfl, .inl ⟨by omega, by omega⟩, _, rfl, _, _, rfl, rfl, _, _, rfl, rfl, ⟨by decide, by decide, by decide⟩, _, _, rfl, rfl, _, _, rfl, rfl, pm, ?_⟩
    -- size = max(cell, 0 - cell)
    refine ⟨_, rfl, _, rfl, _, _, rfl, rfl, _, _, rfl, ?_⟩
    have b1 := Int.emod_nonneg (mix * 1000033 + n) (show (2 : Int) ^ (61 : Int).toNat - 1 ≠ 0 by decide)
    have b2 := Int.emod_lt_of_pos (mix * 1000033 + n) pm
    rw [pe] at b2
    -- if size >= 10 ** 18
    refine ⟨_, rfl, _, _, rfl, rfl, ⟨by decide, by decide, by decide⟩, _, _, rfl, rfl, _, rfl, ite2 (fun e => ?_) (fun e => ?_)⟩
    · refine ⟨_, rfl, .inl ⟨rfl, _, sql hds⟩, _, rfl, _, _, rfl, rfl, ⟨by decide, by decide, by decide⟩, _, _, rfl, rfl, d, _, _, rfl, rfl, hds, size_lt (by rw [List.length_map]; omega), ?_⟩
      refine ⟨_, _, _, ds ++ [_], rfl, b1, b2, same_keep sm hd, by rw [upd_same, List.map_append]; rfl, by rw [List.length_append]; exact Nat.succ_le_succ hdl⟩
    · exact ⟨_, _, _, ds, rfl, b1, b2, sm, hds, Nat.le_succ_of_le hdl⟩
  · obtain ⟨mix, y3, y4, ds, rfl, m0, m1, sm, hds, hdl⟩ := h
    refine ⟨_, rfl, _, rfl, size_le (by show 4 ≤ 100000; decide), fun p hp => ?_⟩
    refine q _ p d (sm.trans (same_new hp)) (sm.free hp) hd ⟨0, mix, 0, ds, upd_same, ?_, m0, m1, by decide, by decide⟩
    rw [upd_ne (ne_of_none hds hp)]
    exact hds

end
end Rn
namespace Rn
open PySem PySem.Spec PyProof.Rows L2
section
variable {P : Program} {w : World} {K : PySem.W.Frag} {mg : Str → Option Value} {base : Heap}
def sp_law_draw (K : PySem.W.Frag) : Sp := fun vs H Q _ => ∃ (a d : Addr) (n many : Int), vs = [.ref a, .int many] ∧ Src H a d n ∧ n ≤ 1000000000000000 ∧ 0 < many ∧ many < 2 ^ 100 ∧
  ∀ H' r, Adv a d 1 H H' → 0 ≤ r → r < many → Q (.int r) H'
theorem ok_law_draw (T : Txt K mg) : FnOk P w K mg base CX0 1 T.f_law_draw T.d_law_draw ["source", "many"] (sp_law_draw K) := by
  refine T.F_law_draw.ok sc_law_draw (fun vs H Q E h => ?_) (fun cdv A outer s H vs Q E hr h => ?_)
  · obtain ⟨a, d, n, many, rfl, _⟩ := h
    rfl
  obtain ⟨a, d, n, many, rfl, hS, hn, hm0, hm1, q⟩ := h
  refine ⟨_, (pss_cons (ps_while PassesOwn.never (PW.pt (pw_and (pt_cmpR op_lt (pe_ix ix_list (pv 0) pe_int (fun _ _ => rfl)) pe_int (nomark _)) (pw_and1 (pt_cmpR (op_neD hr.units) (pe_ix ix_list (pv 0) pe_int (fun _ _ => rfl)) (pe_lst pa_nil) (nomark _)))))
      (pss_one (ps_asg (pe_bm PySem.F.plainAttrs_list PySem.F.slot_list_pop PySem.F.type_list_pop mt_popAt (pe_ix ix_list (pv 0) pe_int (fun _ _ => rfl)) (pa_cons pe_int pa_nil)) (pg_sub (pv 0) pe_int set_list))))
      (pss_cons (ps_if (pt_cmpR op_ge (pe_ix ix_list (pv 0) pe_int (fun _ _ => rfl)) pe_int (nomark _))
      (pss_cons (ps_set (i := 2) sc_law_draw.nd rfl (Or.inl rfl) (pe_op op_mod (pe_ix ix_list (pv 0) pe_int (fun _ _ => rfl)) (pv 1)))
      (pss_cons (ps_asg (pe_op op_fdivW (pe_ix ix_list (pv 0) pe_int (fun _ _ => rfl)) (pv 1)) (pg_sub (pv 0) pe_int set_list))
      (pss_one (ps_ret (pv 2)))))
      pss_nil)
      (pss_cons (ps_asg (pe_op op_add (pe_ix ix_list (pv 0) pe_int (fun _ _ => rfl)) pe_int) (pg_sub (pv 0) pe_int set_list))
      (pss_cons (ps_set (i := 3) sc_law_draw.nd rfl (Or.inl rfl) (pe_op op_mul (pe_op op_add (pe_ix ix_list (pv 0) pe_int (fun _ _ => rfl)) pe_int) (pe_op op_pow (pe_op op_add (pe_ix ix_list (pv 0) pe_int (fun _ _ => rfl)) pe_int) pe_int)))
      (pss_cons (ps_set (i := 3) sc_law_draw.nd rfl (Or.inl rfl) (pe_op op_mod (pe_op op_add (pv 3) (pe_op op_mul pe_int (pe_ix ix_list (pv 0) pe_int (fun _ _ => rfl)))) (pe_op op_sub (pe_op op_pow pe_int pe_int) pe_int)))
      (pss_one (ps_ret (pe_op op_mod (pe_op op_fdivW (pe_op op_mod (pe_op op_pow (pv 3) pe_int) (pe_op op_add (pe_op op_pow pe_int pe_int) pe_int)) pe_int) (pv 1))))))))), ?_⟩
  have had := hS.ne
  obtain ⟨cur, mix, cnt, ds, ha, hd, m0, m1, c0, c1⟩ := hS
  have hda := had.symm
  -- the digits' loop
  refine ⟨fun m σ H' => ∃ cu es, σ = [some (.ref a), some (.int many), none, none] ∧ H' a = some (.lst [.ref d, .int cu, .int mix, .int cnt]) ∧ H' d = some (.lst ((es : List Int).map V.int)) ∧ es.length = m ∧ Same (hid a d H) (hid a d H'),
    ⟨ds.length, cur, ds, rfl, ha, hd, rfl, Same.refl _⟩, fun m σ H1 hW => ?_⟩
  obtain ⟨cu, es, rfl, ha1, hd1, hl1, sm1⟩ := hW
  have hp3 : (0 : Int) < 2 ^ (61 : Int).toNat - 1 := by decide
  have hp3e : (2 : Int) ^ (61 : Int).toNat - 1 = 2305843009213693951 := by decide
  have hp4 : (0 : Int) < 10 ^ (18 : Int).toNat + 9 := by decide
  -- source[1] < 2
  refine ⟨_, rfl, a, _, 1, _, rfl, rfl, sql ha1, rfl, _, _, rfl, rfl, _, rfl, ite2 (fun e => ?_) (fun e => ?_)⟩
  · -- source[0] != []
    refine ⟨_, rfl, a, _, 0, _, rfl, rfl, sql ha1, rfl, Nat.zero_le _, fun o ho => ?_⟩
    have no : o ≠ a ∧ o ≠ d := ⟨(ne_of_none ha1 ho).symm, (ne_of_none hd1 ho).symm⟩
    have ha2 : (upd H1 o (.lst [])) a = some (.lst [.ref d, .int cu, .int mix, .int cnt]) := by rw [upd_ne no.1.symm]; exact ha1
    have hd2 : (upd H1 o (.lst [])) d = some (.lst (es.map V.int)) := by rw [upd_ne no.2.symm]; exact hd1
    have sm2 : Same (hid a d H) (hid a d (upd H1 o (.lst []))) := sm1.trans (hid_same (same_new ho))
    refine ⟨dInts es, dInts [], dp_ints (sql hd2), dp_nil (sql upd_same), shaped_ints _, shaped_ints _, _, rfl, ?_⟩
    rw [eqv_ints]
    generalize upd H1 o (.lst []) = H2 at *
    cases es with
    | cons x r =>
      refine iteT ⟨fun σ' H' => ∃ cu, σ' = [some (.ref a), some (.int many), none, none] ∧ H' a = some (.lst [.ref d, .int cu, .int mix, .int cnt]) ∧ H' d = some (.lst (r.map V.int)) ∧ Same (hid a d H) (hid a d H'),
        fun σ' H' hN => ?_, ?_⟩
      · obtain ⟨cu', e1, e2, e3, e4⟩ := hN
        exact ⟨r.length, by rw [← hl1]; exact Nat.lt_succ_self _, cu', r, e1, e2, e3, rfl, e4⟩
      · refine ⟨_, rfl, a, _, 0, _, rfl, rfl, sql ha2, rfl, .inl ⟨rfl, _, sql hd2⟩, d, _, 0, 0, .int x, rfl, rfl, hd2, by decide, by decide, ?_, rfl, ?_⟩
        · unfold seqIndex?
          simp
        refine ⟨_, rfl, a, _, 1, 1, rfl, rfl, by rw [upd_ne had]; exact ha2, rfl, x, rfl, upd_same, ?_, ?_⟩
        · rw [upd_ne hda, upd_same]
          rfl
        · rw [hid_src1, hid_src2]
          exact sm2
    | nil =>
      refine iteF ?_
      -- if source[1] >= 2
      refine ⟨_, rfl, a, _, 1, _, rfl, rfl, sql ha2, rfl, _, _, rfl, rfl, _, rfl, ite2 (fun e2 => ?_) (fun _ => ?_)⟩
      · have x1 := of_decide_eq_true e
        have x2 := of_decide_eq_true e2
        omega
      refine ⟨_, rfl, a, _, 3, _, rfl, rfl, sql ha2, rfl, _, _, rfl, rfl, _, rfl, a, _, 3, 3, rfl, rfl, ha2, rfl, ?_⟩
      have ha3 : (upd H2 a (.lst [.ref d, .int cu, .int mix, .int (cnt + 1)])) a = some (.lst [.ref d, .int cu, .int mix, .int (cnt + 1)]) := upd_same
      have hd3 : (upd H2 a (.lst [.ref d, .int cu, .int mix, .int (cnt + 1)])) d = some (.lst (([] : List Int).map V.int)) := by rw [upd_ne hda]; exact hd2
      have sm3 : Same (hid a d H) (hid a d (upd H2 a (.lst [.ref d, .int cu, .int mix, .int (cnt + 1)]))) := by rw [hid_src1]; exact sm2
      show tSeq _ _ _ _ (upd H2 a (.lst [.ref d, .int cu, .int mix, .int (cnt + 1)]))
      generalize upd H2 a (.lst [.ref d, .int cu, .int mix, .int (cnt + 1)]) = H3 at *
      refine ⟨_, rfl, a, _, 2, _, rfl, rfl, sql ha3, rfl, _, _, rfl, rfl, _, rfl, a, _, 3, _, rfl, rfl, sql ha3, rfl, _, _, rfl, rfl, _, _, rfl, rfl, ⟨by decide, by decide, by omega⟩, _, _, rfl, rfl, .inl ⟨by omega, by omega⟩, ?_⟩
      refine ⟨_, rfl, _, rfl, a, _, 3, _, rfl, rfl, sql ha3, rfl, _, _, rfl, rfl, .inl ⟨by decide, by decide⟩, _, _, rfl, rfl, _, _, rfl, rfl, ⟨by decide, by decide, by decide⟩, _, _, rfl, rfl, _, _, rfl, rfl, hp3, ?_⟩
      have b1 := Int.emod_nonneg ((mix + 7) * (cnt + 1 + 3) ^ (3 : Int).toNat + 1000081 * (cnt + 1)) (show (2 : Int) ^ (61 : Int).toNat - 1 ≠ 0 by decide)
      have b2 := Int.emod_lt_of_pos ((mix + 7) * (cnt + 1 + 3) ^ (3 : Int).toNat + 1000081 * (cnt + 1)) hp3
      refine ⟨_, rfl, _, _, rfl, rfl, ⟨by decide, by decide, small64 b1 b2 (by decide)⟩, _, _, rfl, rfl, ⟨by decide, by decide, by decide⟩, _, _, rfl, rfl, _, _, rfl, rfl, hp4, _, _, rfl, rfl, wide_div (b := 8) (by decide) (by decide) (by decide) (by decide), _, rfl, _, _, rfl, rfl, hm0, ?_⟩
      exact q H3 _ (Adv.made sm3 ha ha3 hd3 (by omega) (by omega)) (Int.emod_nonneg _ (by omega)) (Int.emod_lt_of_pos _ hm0)
  · -- a digit is left
    refine iteF ?_
    refine ⟨_, rfl, a, _, 1, _, rfl, rfl, sql ha1, rfl, _, _, rfl, rfl, _, rfl, ite2 (fun e2 => ?_) (fun e2 => ?_)⟩
    · refine ⟨_, rfl, a, _, 1, _, rfl, rfl, sql ha1, rfl, _, rfl, _, _, rfl, rfl, hm0, ?_⟩
      refine ⟨_, rfl, a, _, 1, _, rfl, rfl, sql ha1, rfl, _, rfl, _, _, rfl, rfl, wide_div (b := 100) hm0 (by omega) (by decide) (by decide), _, rfl, a, _, 1, 1, rfl, rfl, ha1, rfl, ?_⟩
      refine ⟨_, rfl, q _ _ (Adv.made (cur' := cu / many) (cnt' := cnt) (ds' := es) ?_ ha upd_same ?_ (by omega) (by omega)) (Int.emod_nonneg _ (by omega)) (Int.emod_lt_of_pos _ hm0)⟩
      · rw [hid_src1]
        exact sm1
      · rw [upd_ne hda]
        exact hd1
    · have x1 := of_decide_eq_false (Bool.eq_false_iff.mpr e)
      have x2 := of_decide_eq_false (Bool.eq_false_iff.mpr e2)
      omega

end
end Rn
namespace Rn
open PySem PySem.Spec PyProof.Rows L2
section
variable {P : Program} {w : World} {K : PySem.W.Frag} {mg : Str → Option Value} {base : Heap}
/-- on two equal numbers -/
def sp_law_same0 (K : PySem.W.Frag) : Sp := fun vs H Q _ => ∃ x : Int, vs = [.int x, .int x] ∧ Q (.bl true) H
theorem ok_law_same0 (T : Txt K mg) : FnOk P w K mg base CX0 1 T.f_law_same T.d_law_same ["found", "wanted"] (sp_law_same0 K) := by
  have G_law_same : FnOk P w K mg base CX0 0 T.f_law_same T.d_law_same ["found", "wanted"] (fun _ _ _ _ => False) := ⟨fun _ _ _ _ h => h.elim, fun _ _ _ _ _ _ _ _ _ _ _ _ _ h => h.elim⟩
  refine T.F_law_same.ok sc_law_same (fun vs H Q E h => ?_) (fun cdv A outer s H vs Q E hr h => ?_)
  · obtain ⟨x, rfl, _⟩ := h
    rfl
  obtain ⟨x, rfl, q⟩ := h
  refine ⟨_, (pss_cons (ps_if (pt_cmpR op_isN (pv 1) pe_non (nomark _))
      (pss_one (ps_ret (pe_cmpR op_isN (pv 0) pe_non (nomark _))))
      pss_nil)
      (pss_cons (ps_if (pt_val (pe_callB call_isi (by rfl) T.m_isinstance (by decide +kernel) (pa_cons (pv 1) (pa_cons (pe_bltn (v := .ty "bool") (by rfl) T.m_bool (by decide +kernel) rfl) pa_nil))))
      (pss_one (ps_ret (pe_and (pe_callB call_isi (by rfl) T.m_isinstance (by decide +kernel) (pa_cons (pv 0) (pa_cons (pe_bltn (v := .ty "bool") (by rfl) T.m_bool (by decide +kernel) rfl) pa_nil))) (pe_one (pe_cmpR op_eq (pv 0) (pv 1) (nomark _))))))
      pss_nil)
      (pss_cons (ps_if (pt_val (pe_callB call_isi (by rfl) T.m_isinstance (by decide +kernel) (pa_cons (pv 1) (pa_cons (pe_bltn (v := .ty "int") (by rfl) T.m_int (by decide +kernel) rfl) pa_nil))))
      (pss_one (ps_ret (pe_and (pe_callB call_isi (by rfl) T.m_isinstance (by decide +kernel) (pa_cons (pv 0) (pa_cons (pe_bltn (v := .ty "int") (by rfl) T.m_int (by decide +kernel) rfl) pa_nil))) (pe_and (pe_not (pe_callB call_isi (by rfl) T.m_isinstance (by decide +kernel) (pa_cons (pv 0) (pa_cons (pe_bltn (v := .ty "bool") (by rfl) T.m_bool (by decide +kernel) rfl) pa_nil)))) (pe_one (pe_cmpR op_eq (pv 0) (pv 1) (nomark _)))))))
      pss_nil)
      (pss_cons (ps_if (pt_val (pe_callB call_isi (by rfl) T.m_isinstance (by decide +kernel) (pa_cons (pv 1) (pa_cons (pe_bltn (v := .ty "str") (by rfl) T.m_str (by decide +kernel) rfl) pa_nil))))
      (pss_one (ps_ret (pe_and (pe_callB call_isi (by rfl) T.m_isinstance (by decide +kernel) (pa_cons (pv 0) (pa_cons (pe_bltn (v := .ty "str") (by rfl) T.m_str (by decide +kernel) rfl) pa_nil))) (pe_one (pe_cmpR op_eq (pv 0) (pv 1) (nomark _))))))
      pss_nil)
      (pss_cons (ps_if (pt_cmpR op_ne (pe_callB call_isi (by rfl) T.m_isinstance (by decide +kernel) (pa_cons (pv 0) (pa_cons (pe_bltn (v := .ty "list") (by rfl) T.m_list (by decide +kernel) rfl) pa_nil))) (pe_callB call_isi (by rfl) T.m_isinstance (by decide +kernel) (pa_cons (pv 1) (pa_cons (pe_bltn (v := .ty "list") (by rfl) T.m_list (by decide +kernel) rfl) pa_nil))) (nomark _))
      (pss_one (ps_ret pe_bl))
      pss_nil)
      (pss_cons (ps_if (PW.pt (pw_or (pt_cmpR op_ne (pe_callB call_isi (by rfl) T.m_isinstance (by decide +kernel) (pa_cons (pv 0) (pa_cons (pe_bltn (v := .ty "tuple") (by rfl) T.m_tuple (by decide +kernel) rfl) pa_nil))) (pe_callB call_isi (by rfl) T.m_isinstance (by decide +kernel) (pa_cons (pv 1) (pa_cons (pe_bltn (v := .ty "tuple") (by rfl) T.m_tuple (by decide +kernel) rfl) pa_nil))) (nomark _)) (pw_or1 (pt_cmpR op_ne (pe_callB call_len_seq (by rfl) T.m_len PySem.boot_len (pa_cons (pv 0) pa_nil)) (pe_callB call_len_seq (by rfl) T.m_len PySem.boot_len (pa_cons (pv 1) pa_nil)) (nomark _)))))
      (pss_one (ps_ret pe_bl))
      pss_nil)
      (pss_one (ps_ret (pe_cmpR (op_eqD hr.units) (pe_lc (own := [("k", 2)]) (g := gName 2)  rfl sc_law_same.nd (pi_range1 (by rfl) T.m_range (pa_cons (pe_callB call_len_seq (by rfl) T.m_len PySem.boot_len (pa_cons (pv 1) pa_nil)) pa_nil)) (blkOk_by (N := ["found", "wanted", "k"]) (sc := defScope s_law_same) (by decide +kernel)) (fun _ _ _ _ _ => (pg_name (i := 2) sc_law_same.nd rfl (Or.inl rfl))) (fun _ _ _ _ _ => (pts_one (pt_not (pt_val (pe_call G_law_same hr (by rfl) T.g_law_same T.F_law_same.kp T.b_law_same .nil pass0 (pa_cons (pe_ix ((ix_listK (K := K) rfl).or (ix_tupK (K := K) rfl)) (pv 0) (pv 2) (fun _ _ => rfl)) (pa_cons (pe_ix ((ix_listK (K := K) rfl).or (ix_tupK (K := K) rfl)) (pv 1) (pv 2) (fun _ _ => rfl)) pa_nil))))))) (fun _ _ _ _ _ => (pv 2))) (pe_lst pa_nil) (nomark _)))))))))), ?_⟩
  refine ⟨_, rfl, rfl, false, rfl, iteF ?_⟩
  refine ⟨_, rfl, _, _, _, _, false, rfl, .ty "bool", .base (.int x), kit_ty (by decide +kernel), false, rfl, iteF ?_⟩
  refine ⟨_, rfl, _, _, _, _, true, rfl, .ty "int", .base (.int x), kit_ty (by decide +kernel), true, rfl, iteT ?_⟩
  refine ⟨_, rfl, _, _, _, _, true, rfl, .ty "int", .base (.int x), kit_ty (by decide +kernel), true, rfl, iteT ?_⟩
  refine ⟨_, rfl, _, _, _, _, false, rfl, .ty "bool", .base (.int x), kit_ty (by decide +kernel), false, rfl, true, rfl, iteT ?_⟩
  refine ⟨_, rfl, _, rfl, rfl, ?_⟩
  rw [decide_eq_true rfl]
  exact q
/-- on two equal layers -/
def sp_law_same1 (K : PySem.W.Frag) : Sp := fun vs H Q _ => ∃ (u v : V) (L : Lay), vs = [u, v] ∧ LayAt H u L ∧ LayAt H v L ∧ (∀ ns, L = .pol ns → ns.length ≤ 20000) ∧ ∀ H', Same H H' → Q (.bl true) H'
theorem ok_law_same1 (T : Txt K mg) : FnOk P w K mg base CX0 2 T.f_law_same T.d_law_same ["found", "wanted"] (sp_law_same1 K) := by
  have G_law_same := ok_law_same0 (P := P) (w := w) (base := base) T
  refine T.F_law_same.ok sc_law_same (fun vs H Q E h => ?_) (fun cdv A outer s H vs Q E hr h => ?_)
  · obtain ⟨u, v, L, rfl, _⟩ := h
    rfl
  obtain ⟨u, v, L, rfl, hu, hv, hz, k⟩ := h
  refine ⟨_, (pss_cons (ps_if (pt_cmpR op_isN (pv 1) pe_non (nomark _))
      (pss_one (ps_ret (pe_cmpR op_isN (pv 0) pe_non (nomark _))))
      pss_nil)
      (pss_cons (ps_if (pt_val (pe_callB call_isi (by rfl) T.m_isinstance (by decide +kernel) (pa_cons (pv 1) (pa_cons (pe_bltn (v := .ty "bool") (by rfl) T.m_bool (by decide +kernel) rfl) pa_nil))))
      (pss_one (ps_ret (pe_and (pe_callB call_isi (by rfl) T.m_isinstance (by decide +kernel) (pa_cons (pv 0) (pa_cons (pe_bltn (v := .ty "bool") (by rfl) T.m_bool (by decide +kernel) rfl) pa_nil))) (pe_one (pe_cmpR op_eq (pv 0) (pv 1) (nomark _))))))
      pss_nil)
      (pss_cons (ps_if (pt_val (pe_callB call_isi (by rfl) T.m_isinstance (by decide +kernel) (pa_cons (pv 1) (pa_cons (pe_bltn (v := .ty "int") (by rfl) T.m_int (by decide +kernel) rfl) pa_nil))))
      (pss_one (ps_ret (pe_and (pe_callB call_isi (by rfl) T.m_isinstance (by decide +kernel) (pa_cons (pv 0) (pa_cons (pe_bltn (v := .ty "int") (by rfl) T.m_int (by decide +kernel) rfl) pa_nil))) (pe_and (pe_not (pe_callB call_isi (by rfl) T.m_isinstance (by decide +kernel) (pa_cons (pv 0) (pa_cons (pe_bltn (v := .ty "bool") (by rfl) T.m_bool (by decide +kernel) rfl) pa_nil)))) (pe_one (pe_cmpR op_eq (pv 0) (pv 1) (nomark _)))))))
      pss_nil)
      (pss_cons (ps_if (pt_val (pe_callB call_isi (by rfl) T.m_isinstance (by decide +kernel) (pa_cons (pv 1) (pa_cons (pe_bltn (v := .ty "str") (by rfl) T.m_str (by decide +kernel) rfl) pa_nil))))
      (pss_one (ps_ret (pe_and (pe_callB call_isi (by rfl) T.m_isinstance (by decide +kernel) (pa_cons (pv 0) (pa_cons (pe_bltn (v := .ty "str") (by rfl) T.m_str (by decide +kernel) rfl) pa_nil))) (pe_one (pe_cmpR op_eq (pv 0) (pv 1) (nomark _))))))
      pss_nil)
      (pss_cons (ps_if (pt_cmpR op_ne (pe_callB call_isi (by rfl) T.m_isinstance (by decide +kernel) (pa_cons (pv 0) (pa_cons (pe_bltn (v := .ty "list") (by rfl) T.m_list (by decide +kernel) rfl) pa_nil))) (pe_callB call_isi (by rfl) T.m_isinstance (by decide +kernel) (pa_cons (pv 1) (pa_cons (pe_bltn (v := .ty "list") (by rfl) T.m_list (by decide +kernel) rfl) pa_nil))) (nomark _))
      (pss_one (ps_ret pe_bl))
      pss_nil)
      (pss_cons (ps_if (PW.pt (pw_or (pt_cmpR op_ne (pe_callB call_isi (by rfl) T.m_isinstance (by decide +kernel) (pa_cons (pv 0) (pa_cons (pe_bltn (v := .ty "tuple") (by rfl) T.m_tuple (by decide +kernel) rfl) pa_nil))) (pe_callB call_isi (by rfl) T.m_isinstance (by decide +kernel) (pa_cons (pv 1) (pa_cons (pe_bltn (v := .ty "tuple") (by rfl) T.m_tuple (by decide +kernel) rfl) pa_nil))) (nomark _)) (pw_or1 (pt_cmpR op_ne (pe_callB call_len_seq (by rfl) T.m_len PySem.boot_len (pa_cons (pv 0) pa_nil)) (pe_callB call_len_seq (by rfl) T.m_len PySem.boot_len (pa_cons (pv 1) pa_nil)) (nomark _)))))
      (pss_one (ps_ret pe_bl))
      pss_nil)
      (pss_one (ps_ret (pe_cmpR (op_eqD hr.units) (pe_lc (own := [("k", 2)]) (g := gName 2)  rfl sc_law_same.nd (pi_range1 (by rfl) T.m_range (pa_cons (pe_callB call_len_seq (by rfl) T.m_len PySem.boot_len (pa_cons (pv 1) pa_nil)) pa_nil)) (blkOk_by (N := ["found", "wanted", "k"]) (sc := defScope s_law_same) (by decide +kernel)) (fun _ _ _ _ _ => (pg_name (i := 2) sc_law_same.nd rfl (Or.inl rfl))) (fun _ _ _ _ _ => (pts_one (pt_not (pt_val (pe_call G_law_same hr (by rfl) T.g_law_same T.F_law_same.kp T.b_law_same .nil pass0 (pa_cons (pe_ix ((ix_listK (K := K) rfl).or (ix_tupK (K := K) rfl)) (pv 0) (pv 2) (fun _ _ => rfl)) (pa_cons (pe_ix ((ix_listK (K := K) rfl).or (ix_tupK (K := K) rfl)) (pv 1) (pv 2) (fun _ _ => rfl)) pa_nil))))))) (fun _ _ _ _ _ => (pv 2))) (pe_lst pa_nil) (nomark _)))))))))), ?_⟩
  cases L with
  | pol zs =>
    obtain ⟨p, rfl, hp⟩ := hu
    obtain ⟨q, rfl, hq⟩ := hv
    have hz : zs.length ≤ 20000 := hz zs rfl
    refine ⟨_, rfl, rfl, false, rfl, iteF ?_⟩
    refine ⟨_, rfl, _, _, _, _, false, rfl, .ty "bool", .base (.lst hq), kit_ty (by decide +kernel), false, rfl, iteF ?_⟩
    refine ⟨_, rfl, _, _, _, _, false, rfl, .ty "int", .base (.lst hq), kit_ty (by decide +kernel), false, rfl, iteF ?_⟩
    refine ⟨_, rfl, _, _, _, _, false, rfl, .ty "str", .base (.lst hq), kit_ty (by decide +kernel), false, rfl, iteF ?_⟩
    refine ⟨_, rfl, _, _, _, _, true, rfl, .ty "list", .base (.lst hp), kit_ty (by decide +kernel), _, rfl, _, _, _, _, true, rfl, .ty "list", .base (.lst hq), kit_ty (by decide +kernel), rfl, false, rfl, iteF ?_⟩
    refine ⟨_, rfl, _, _, _, _, false, rfl, .ty "tuple", .base (.lst hp), kit_ty (by decide +kernel), _, rfl, _, _, _, _, false, rfl, .ty "tuple", .base (.lst hq), kit_ty (by decide +kernel), rfl, false, rfl, iteF ?_⟩
    refine ⟨_, rfl, p, _, rfl, .inl (sql hp), _, rfl, q, _, rfl, .inl (sql hq), rfl, _, rfl, ne_val rfl ?_⟩
    refine ⟨_, rfl, q, _, rfl, .inl (sql hq), _, rfl, by have : ((zs.map V.int).length) = zs.length := List.length_map .. ; have : zs.length ≤ 20000 := hz; omega, by have : ((zs.map V.int).length) = zs.length := List.length_map .. ; have : zs.length ≤ 20000 := hz; omega, fun D hD => ?_⟩
    refine lc_range (lo := 0) (n := _) (fun i H' => H' D = some (.lst []) ∧ Same H H') ⟨upd_same, same_new hD⟩ (fun i H2 hi h => ?_) (fun H2 h => ?_)
    · have hi' : i < zs.length := by rw [List.length_map] at hi; omega
      obtain ⟨hk, sm⟩ := h
      have gx : atI (zs.map V.int) (0 + (i : Int)) = some (.int zs[i]) := by
        rw [Int.zero_add]
        exact atI_nat (map_get (List.getElem?_eq_getElem hi'))
      exact ⟨rfl, _, rfl, _, rfl, .inl ⟨p, _, _, .int zs[i], rfl, rfl, sql (sm _ _ hp), gx, _, rfl, _, rfl, .inl ⟨q, _, _, .int zs[i], rfl, rfl, sql (sm _ _ hq), gx, zs[i], rfl, _, rfl, iteF ⟨hk, sm⟩⟩⟩⟩
    · obtain ⟨hk, sm⟩ := h
      refine ⟨Nat.zero_le _, fun z hz' => ?_⟩
      have sz := same_new (o := .lst []) hz'
      refine ⟨_, _, dp_nil (sql (sz _ _ hk)), dp_nil (sql upd_same), shaped_ints _, shaped_ints _, ?_⟩
      rw [eqv_ints, decide_eq_true rfl]
      exact k _ (sm.trans sz)
  | con a b =>
    obtain ⟨p, rfl, hp⟩ := hu
    obtain ⟨q, rfl, hq⟩ := hv
    refine ⟨_, rfl, rfl, false, rfl, iteF ?_⟩
    refine ⟨_, rfl, _, _, _, _, false, rfl, .ty "bool", .base (.tup hq), kit_ty (by decide +kernel), false, rfl, iteF ?_⟩
    refine ⟨_, rfl, _, _, _, _, false, rfl, .ty "int", .base (.tup hq), kit_ty (by decide +kernel), false, rfl, iteF ?_⟩
    refine ⟨_, rfl, _, _, _, _, false, rfl, .ty "str", .base (.tup hq), kit_ty (by decide +kernel), false, rfl, iteF ?_⟩
    refine ⟨_, rfl, _, _, _, _, false, rfl, .ty "list", .base (.tup hp), kit_ty (by decide +kernel), _, rfl, _, _, _, _, false, rfl, .ty "list", .base (.tup hq), kit_ty (by decide +kernel), rfl, false, rfl, iteF ?_⟩
    refine ⟨_, rfl, _, _, _, _, true, rfl, .ty "tuple", .base (.tup hp), kit_ty (by decide +kernel), _, rfl, _, _, _, _, true, rfl, .ty "tuple", .base (.tup hq), kit_ty (by decide +kernel), rfl, false, rfl, iteF ?_⟩
    refine ⟨_, rfl, p, _, rfl, .inr (sqt hp), _, rfl, q, _, rfl, .inr (sqt hq), rfl, _, rfl, ne_val rfl ?_⟩
    refine ⟨_, rfl, q, _, rfl, .inr (sqt hq), _, rfl, by show (-2 ^ 62 : Int) ≤ 2; decide, by show (2 : Int) < 2 ^ 62; decide, fun D hD => ?_⟩
    refine lc_range (lo := 0) (n := _) (fun i H' => H' D = some (.lst []) ∧ Same H H') ⟨upd_same, same_new hD⟩ (fun i H2 hi h => ?_) (fun H2 h => ?_)
    · have hi' : i < 2 := hi
      obtain ⟨hk, sm⟩ := h
      obtain ⟨x, gx⟩ : ∃ x : Int, atI [V.int a, .int b] (0 + (i : Int)) = some (.int x) := by
        rcases (show i = 0 ∨ i = 1 by omega) with rfl | rfl
        · exact ⟨a, rfl⟩
        · exact ⟨b, rfl⟩
      exact ⟨rfl, _, rfl, _, rfl, .inr ⟨p, _, _, .int x, rfl, rfl, sqt (sm _ _ hp), gx, _, rfl, _, rfl, .inr ⟨q, _, _, .int x, rfl, rfl, sqt (sm _ _ hq), gx, x, rfl, _, rfl, iteF ⟨hk, sm⟩⟩⟩⟩
    · obtain ⟨hk, sm⟩ := h
      refine ⟨Nat.zero_le _, fun z hz' => ?_⟩
      have sz := same_new (o := .lst []) hz'
      refine ⟨_, _, dp_nil (sql (sz _ _ hk)), dp_nil (sql upd_same), shaped_ints _, shaped_ints _, ?_⟩
      rw [eqv_ints, decide_eq_true rfl]
      exact k _ (sm.trans sz)
/-- on two equal nestings -/
def sp_law_same2 (K : PySem.W.Frag) : Sp := fun vs H Q _ => ∃ (p q : Addr) (Ls : List Lay), vs = [.ref p, .ref q] ∧ NestAt H p Ls ∧ NestAt H q Ls ∧ Ls.length ≤ 20000 ∧ (∀ ns, Lay.pol ns ∈ Ls → ns.length ≤ 20000) ∧ ∀ H', Same H H' → Q (.bl true) H'
theorem ok_law_same2 (T : Txt K mg) : FnOk P w K mg base CX0 3 T.f_law_same T.d_law_same ["found", "wanted"] (sp_law_same2 K) := by
  have G_law_same := ok_law_same1 (P := P) (w := w) (base := base) T
  refine T.F_law_same.ok sc_law_same (fun vs H Q E h => ?_) (fun cdv A outer s H vs Q E hr h => ?_)
  · obtain ⟨p, q, Ls, rfl, _⟩ := h
    rfl
  obtain ⟨p, q, Ls, rfl, ⟨us, hp, lu, au⟩, ⟨ws, hq, lw, aw⟩, hz, hs, k⟩ := h
  refine ⟨_, (pss_cons (ps_if (pt_cmpR op_isN (pv 1) pe_non (nomark _))
      (pss_one (ps_ret (pe_cmpR op_isN (pv 0) pe_non (nomark _))))
      pss_nil)
      (pss_cons (ps_if (pt_val (pe_callB call_isi (by rfl) T.m_isinstance (by decide +kernel) (pa_cons (pv 1) (pa_cons (pe_bltn (v := .ty "bool") (by rfl) T.m_bool (by decide +kernel) rfl) pa_nil))))
      (pss_one (ps_ret (pe_and (pe_callB call_isi (by rfl) T.m_isinstance (by decide +kernel) (pa_cons (pv 0) (pa_cons (pe_bltn (v := .ty "bool") (by rfl) T.m_bool (by decide +kernel) rfl) pa_nil))) (pe_one (pe_cmpR op_eq (pv 0) (pv 1) (nomark _))))))
      pss_nil)
      (pss_cons (ps_if (pt_val (pe_callB call_isi (by rfl) T.m_isinstance (by decide +kernel) (pa_cons (pv 1) (pa_cons (pe_bltn (v := .ty "int") (by rfl) T.m_int (by decide +kernel) rfl) pa_nil))))
      (pss_one (ps_ret (pe_and (pe_callB call_isi (by rfl) T.m_isinstance (by decide +kernel) (pa_cons (pv 0) (pa_cons (pe_bltn (v := .ty "int") (by rfl) T.m_int (by decide +kernel) rfl) pa_nil))) (pe_and (pe_not (pe_callB call_isi (by rfl) T.m_isinstance (by decide +kernel) (pa_cons (pv 0) (pa_cons (pe_bltn (v := .ty "bool") (by rfl) T.m_bool (by decide +kernel) rfl) pa_nil)))) (pe_one (pe_cmpR op_eq (pv 0) (pv 1) (nomark _)))))))
      pss_nil)
      (pss_cons (ps_if (pt_val (pe_callB call_isi (by rfl) T.m_isinstance (by decide +kernel) (pa_cons (pv 1) (pa_cons (pe_bltn (v := .ty "str") (by rfl) T.m_str (by decide +kernel) rfl) pa_nil))))
      (pss_one (ps_ret (pe_and (pe_callB call_isi (by rfl) T.m_isinstance (by decide +kernel) (pa_cons (pv 0) (pa_cons (pe_bltn (v := .ty "str") (by rfl) T.m_str (by decide +kernel) rfl) pa_nil))) (pe_one (pe_cmpR op_eq (pv 0) (pv 1) (nomark _))))))
      pss_nil)
      (pss_cons (ps_if (pt_cmpR op_ne (pe_callB call_isi (by rfl) T.m_isinstance (by decide +kernel) (pa_cons (pv 0) (pa_cons (pe_bltn (v := .ty "list") (by rfl) T.m_list (by decide +kernel) rfl) pa_nil))) (pe_callB call_isi (by rfl) T.m_isinstance (by decide +kernel) (pa_cons (pv 1) (pa_cons (pe_bltn (v := .ty "list") (by rfl) T.m_list (by decide +kernel) rfl) pa_nil))) (nomark _))
      (pss_one (ps_ret pe_bl))
      pss_nil)
      (pss_cons (ps_if (PW.pt (pw_or (pt_cmpR op_ne (pe_callB call_isi (by rfl) T.m_isinstance (by decide +kernel) (pa_cons (pv 0) (pa_cons (pe_bltn (v := .ty "tuple") (by rfl) T.m_tuple (by decide +kernel) rfl) pa_nil))) (pe_callB call_isi (by rfl) T.m_isinstance (by decide +kernel) (pa_cons (pv 1) (pa_cons (pe_bltn (v := .ty "tuple") (by rfl) T.m_tuple (by decide +kernel) rfl) pa_nil))) (nomark _)) (pw_or1 (pt_cmpR op_ne (pe_callB call_len_seq (by rfl) T.m_len PySem.boot_len (pa_cons (pv 0) pa_nil)) (pe_callB call_len_seq (by rfl) T.m_len PySem.boot_len (pa_cons (pv 1) pa_nil)) (nomark _)))))
      (pss_one (ps_ret pe_bl))
      pss_nil)
      (pss_one (ps_ret (pe_cmpR (op_eqD hr.units) (pe_lc (own := [("k", 2)]) (g := gName 2)  rfl sc_law_same.nd (pi_range1 (by rfl) T.m_range (pa_cons (pe_callB call_len_seq (by rfl) T.m_len PySem.boot_len (pa_cons (pv 1) pa_nil)) pa_nil)) (blkOk_by (N := ["found", "wanted", "k"]) (sc := defScope s_law_same) (by decide +kernel)) (fun _ _ _ _ _ => (pg_name (i := 2) sc_law_same.nd rfl (Or.inl rfl))) (fun _ _ _ _ _ => (pts_one (pt_not (pt_val (pe_call G_law_same hr (by rfl) T.g_law_same T.F_law_same.kp T.b_law_same .nil pass0 (pa_cons (pe_ix ((ix_listK (K := K) rfl).or (ix_tupK (K := K) rfl)) (pv 0) (pv 2) (fun _ _ => rfl)) (pa_cons (pe_ix ((ix_listK (K := K) rfl).or (ix_tupK (K := K) rfl)) (pv 1) (pv 2) (fun _ _ => rfl)) pa_nil))))))) (fun _ _ _ _ _ => (pv 2))) (pe_lst pa_nil) (nomark _)))))))))), ?_⟩
  refine ⟨_, rfl, rfl, false, rfl, iteF ?_⟩
  refine ⟨_, rfl, _, _, _, _, false, rfl, .ty "bool", .base (.lst hq), kit_ty (by decide +kernel), false, rfl, iteF ?_⟩
  refine ⟨_, rfl, _, _, _, _, false, rfl, .ty "int", .base (.lst hq), kit_ty (by decide +kernel), false, rfl, iteF ?_⟩
  refine ⟨_, rfl, _, _, _, _, false, rfl, .ty "str", .base (.lst hq), kit_ty (by decide +kernel), false, rfl, iteF ?_⟩
  refine ⟨_, rfl, _, _, _, _, true, rfl, .ty "list", .base (.lst hp), kit_ty (by decide +kernel), _, rfl, _, _, _, _, true, rfl, .ty "list", .base (.lst hq), kit_ty (by decide +kernel), rfl, false, rfl, iteF ?_⟩
  refine ⟨_, rfl, _, _, _, _, false, rfl, .ty "tuple", .base (.lst hp), kit_ty (by decide +kernel), _, rfl, _, _, _, _, false, rfl, .ty "tuple", .base (.lst hq), kit_ty (by decide +kernel), rfl, false, rfl, iteF ?_⟩
  refine ⟨_, rfl, p, _, rfl, .inl (sql hp), _, rfl, q, _, rfl, .inl (sql hq), rfl, _, rfl, ne_val (by rw [lu, lw]) ?_⟩
  refine ⟨_, rfl, q, _, rfl, .inl (sql hq), _, rfl, by omega, by omega, fun D hD => ?_⟩
  refine lc_range (lo := 0) (n := _) (fun i H' => H' D = some (.lst []) ∧ Same H H') ⟨upd_same, same_new hD⟩ (fun i H2 hi h => ?_) (fun H2 h => ?_)
  · obtain ⟨hk, sm⟩ := h
    have hi1 : i < us.length := by omega
    have hi2 : i < ws.length := by omega
    have hi3 : i < Ls.length := by omega
    have gu : atI us (0 + (i : Int)) = some us[i] := by
      rw [Int.zero_add]
      exact atI_nat (List.getElem?_eq_getElem hi1)
    have gw : atI ws (0 + (i : Int)) = some ws[i] := by
      rw [Int.zero_add]
      exact atI_nat (List.getElem?_eq_getElem hi2)
    have l1 := au i _ _ (List.getElem?_eq_getElem hi1) (List.getElem?_eq_getElem hi3)
    have l2 := aw i _ _ (List.getElem?_eq_getElem hi2) (List.getElem?_eq_getElem hi3)
    have m3 := List.getElem_mem hi3
    generalize us[i] = u at *
    generalize ws[i] = v at *
    generalize Ls[i] = L at *
    exact ⟨rfl, _, rfl, _, rfl, .inl ⟨p, _, _, u, rfl, rfl, sql (sm _ _ hp), gu, _, rfl, _, rfl, .inl ⟨q, _, _, v, rfl, rfl, sql (sm _ _ hq), gw, u, v, L, rfl, l1.same sm, l2.same sm, fun ns e => hs ns (e ▸ m3), fun H3 s3 => ⟨_, rfl, iteF ⟨s3 _ _ hk, sm.trans s3⟩⟩⟩⟩⟩
  · obtain ⟨hk, sm⟩ := h
    refine ⟨Nat.zero_le _, fun z hz' => ?_⟩
    have sz := same_new (o := .lst []) hz'
    refine ⟨_, _, dp_nil (sql (sz _ _ hk)), dp_nil (sql upd_same), shaped_ints _, shaped_ints _, ?_⟩
    rw [eqv_ints, decide_eq_true rfl]
    exact k _ (sm.trans sz)

/-- on two lists of two nestings -/
def sp_law_same (K : PySem.W.Frag) : Sp := fun vs H Q _ => ∃ (p q f1 f2 g1 g2 : Addr) (Ls : List Lay), vs = [.ref p, .ref q] ∧ H p = some (.lst [.ref f1, .ref f2]) ∧ H q = some (.lst [.ref g1, .ref g2]) ∧ NestAt H f1 Ls ∧ NestAt H f2 Ls ∧ NestAt H g1 Ls ∧ NestAt H g2 Ls ∧
  Ls.length ≤ 20000 ∧ (∀ ns, Lay.pol ns ∈ Ls → ns.length ≤ 20000) ∧ ∀ H', Same H H' → Q (.bl true) H'
theorem ok_law_same (T : Txt K mg) : FnOk P w K mg base CX0 4 T.f_law_same T.d_law_same ["found", "wanted"] (sp_law_same K) := by
  have G_law_same := ok_law_same2 (P := P) (w := w) (base := base) T
  refine T.F_law_same.ok sc_law_same (fun vs H Q E h => ?_) (fun cdv A outer s H vs Q E hr h => ?_)
  · obtain ⟨p, q, _, _, _, _, _, rfl, _⟩ := h
    rfl
  obtain ⟨p, q, f1, f2, g1, g2, Ls, rfl, hp, hq, hf1, hf2, hg1, hg2, hz, hs, k⟩ := h
  refine ⟨_, (pss_cons (ps_if (pt_cmpR op_isN (pv 1) pe_non (nomark _))
      (pss_one (ps_ret (pe_cmpR op_isN (pv 0) pe_non (nomark _))))
      pss_nil)
      (pss_cons (ps_if (pt_val (pe_callB call_isi (by rfl) T.m_isinstance (by decide +kernel) (pa_cons (pv 1) (pa_cons (pe_bltn (v := .ty "bool") (by rfl) T.m_bool (by decide +kernel) rfl) pa_nil))))
      (pss_one (ps_ret (pe_and (pe_callB call_isi (by rfl) T.m_isinstance (by decide +kernel) (pa_cons (pv 0) (pa_cons (pe_bltn (v := .ty "bool") (by rfl) T.m_bool (by decide +kernel) rfl) pa_nil))) (pe_one (pe_cmpR op_eq (pv 0) (pv 1) (nomark _))))))
      pss_nil)
      (pss_cons (ps_if (pt_val (pe_callB call_isi (by rfl) T.m_isinstance (by decide +kernel) (pa_cons (pv 1) (pa_cons (pe_bltn (v := .ty "int") (by rfl) T.m_int (by decide +kernel) rfl) pa_nil))))
      (pss_one (ps_ret (pe_and (pe_callB call_isi (by rfl) T.m_isinstance (by decide +kernel) (pa_cons (pv 0) (pa_cons (pe_bltn (v := .ty "int") (by rfl) T.m_int (by decide +kernel) rfl) pa_nil))) (pe_and (pe_not (pe_callB call_isi (by rfl) T.m_isinstance (by decide +kernel) (pa_cons (pv 0) (pa_cons (pe_bltn (v := .ty "bool") (by rfl) T.m_bool (by decide +kernel) rfl) pa_nil)))) (pe_one (pe_cmpR op_eq (pv 0) (pv 1) (nomark _)))))))
      pss_nil)
      (pss_cons (ps_if (pt_val (pe_callB call_isi (by rfl) T.m_isinstance (by decide +kernel) (pa_cons (pv 1) (pa_cons (pe_bltn (v := .ty "str") (by rfl) T.m_str (by decide +kernel) rfl) pa_nil))))
      (pss_one (ps_ret (pe_and (pe_callB call_isi (by rfl) T.m_isinstance (by decide +kernel) (pa_cons (pv 0) (pa_cons (pe_bltn (v := .ty "str") (by rfl) T.m_str (by decide +kernel) rfl) pa_nil))) (pe_one (pe_cmpR op_eq (pv 0) (pv 1) (nomark _))))))
      pss_nil)
      (pss_cons (ps_if (pt_cmpR op_ne (pe_callB call_isi (by rfl) T.m_isinstance (by decide +kernel) (pa_cons (pv 0) (pa_cons (pe_bltn (v := .ty "list") (by rfl) T.m_list (by decide +kernel) rfl) pa_nil))) (pe_callB call_isi (by rfl) T.m_isinstance (by decide +kernel) (pa_cons (pv 1) (pa_cons (pe_bltn (v := .ty "list") (by rfl) T.m_list (by decide +kernel) rfl) pa_nil))) (nomark _))
      (pss_one (ps_ret pe_bl))
      pss_nil)
      (pss_cons (ps_if (PW.pt (pw_or (pt_cmpR op_ne (pe_callB call_isi (by rfl) T.m_isinstance (by decide +kernel) (pa_cons (pv 0) (pa_cons (pe_bltn (v := .ty "tuple") (by rfl) T.m_tuple (by decide +kernel) rfl) pa_nil))) (pe_callB call_isi (by rfl) T.m_isinstance (by decide +kernel) (pa_cons (pv 1) (pa_cons (pe_bltn (v := .ty "tuple") (by rfl) T.m_tuple (by decide +kernel) rfl) pa_nil))) (nomark _)) (pw_or1 (pt_cmpR op_ne (pe_callB call_len_seq (by rfl) T.m_len PySem.boot_len (pa_cons (pv 0) pa_nil)) (pe_callB call_len_seq (by rfl) T.m_len PySem.boot_len (pa_cons (pv 1) pa_nil)) (nomark _)))))
      (pss_one (ps_ret pe_bl))
      pss_nil)
      (pss_one (ps_ret (pe_cmpR (op_eqD hr.units) (pe_lc (own := [("k", 2)]) (g := gName 2)  rfl sc_law_same.nd (pi_range1 (by rfl) T.m_range (pa_cons (pe_callB call_len_seq (by rfl) T.m_len PySem.boot_len (pa_cons (pv 1) pa_nil)) pa_nil)) (blkOk_by (N := ["found", "wanted", "k"]) (sc := defScope s_law_same) (by decide +kernel)) (fun _ _ _ _ _ => (pg_name (i := 2) sc_law_same.nd rfl (Or.inl rfl))) (fun _ _ _ _ _ => (pts_one (pt_not (pt_val (pe_call G_law_same hr (by rfl) T.g_law_same T.F_law_same.kp T.b_law_same .nil pass0 (pa_cons (pe_ix ((ix_listK (K := K) rfl).or (ix_tupK (K := K) rfl)) (pv 0) (pv 2) (fun _ _ => rfl)) (pa_cons (pe_ix ((ix_listK (K := K) rfl).or (ix_tupK (K := K) rfl)) (pv 1) (pv 2) (fun _ _ => rfl)) pa_nil))))))) (fun _ _ _ _ _ => (pv 2))) (pe_lst pa_nil) (nomark _)))))))))), ?_⟩
  refine ⟨_, rfl, rfl, false, rfl, iteF ?_⟩
  refine ⟨_, rfl, _, _, _, _, false, rfl, .ty "bool", .base (.lst hq), kit_ty (by decide +kernel), false, rfl, iteF ?_⟩
  refine ⟨_, rfl, _, _, _, _, false, rfl, .ty "int", .base (.lst hq), kit_ty (by decide +kernel), false, rfl, iteF ?_⟩
  refine ⟨_, rfl, _, _, _, _, false, rfl, .ty "str", .base (.lst hq), kit_ty (by decide +kernel), false, rfl, iteF ?_⟩
  refine ⟨_, rfl, _, _, _, _, true, rfl, .ty "list", .base (.lst hp), kit_ty (by decide +kernel), _, rfl, _, _, _, _, true, rfl, .ty "list", .base (.lst hq), kit_ty (by decide +kernel), rfl, false, rfl, iteF ?_⟩
  refine ⟨_, rfl, _, _, _, _, false, rfl, .ty "tuple", .base (.lst hp), kit_ty (by decide +kernel), _, rfl, _, _, _, _, false, rfl, .ty "tuple", .base (.lst hq), kit_ty (by decide +kernel), rfl, false, rfl, iteF ?_⟩
  refine ⟨_, rfl, p, _, rfl, .inl (sql hp), _, rfl, q, _, rfl, .inl (sql hq), rfl, _, rfl, ne_val rfl ?_⟩
  refine ⟨_, rfl, q, _, rfl, .inl (sql hq), _, rfl, (by show -(2 ^ 62) ≤ ((2 : Nat) : Int); decide), (by show ((2 : Nat) : Int) < 2 ^ 62; decide), fun D hD => ?_⟩
  refine lc_range (lo := 0) (n := _) (fun i H' => H' D = some (.lst []) ∧ Same H H') ⟨upd_same, same_new hD⟩ (fun i H2 hi h => ?_) (fun H2 h => ?_)
  · obtain ⟨hk, sm⟩ := h
    have hi2 : i < 2 := hi
    have two : ∃ (u v : Addr), ([.ref f1, .ref f2] : List V)[i]? = some (.ref u) ∧ ([.ref g1, .ref g2] : List V)[i]? = some (.ref v) ∧ NestAt H u Ls ∧ NestAt H v Ls := by
      rcases i with _ | _ | i
      · exact ⟨f1, g1, rfl, rfl, hf1, hg1⟩
      · exact ⟨f2, g2, rfl, rfl, hf2, hg2⟩
      · omega
    obtain ⟨u, v, eu, ev, nu, nv⟩ := two
    have gu : atI [V.ref f1, V.ref f2] (0 + (i : Int)) = some (.ref u) := by
      rw [Int.zero_add]
      exact atI_nat eu
    have gw : atI [V.ref g1, V.ref g2] (0 + (i : Int)) = some (.ref v) := by
      rw [Int.zero_add]
      exact atI_nat ev
    exact ⟨rfl, _, rfl, _, rfl, .inl ⟨p, _, _, .ref u, rfl, rfl, sql (sm _ _ hp), gu, _, rfl, _, rfl, .inl ⟨q, _, _, .ref v, rfl, rfl, sql (sm _ _ hq), gw, u, v, Ls, rfl, nu.same sm, nv.same sm, hz, hs, fun H3 s3 => ⟨_, rfl, iteF ⟨s3 _ _ hk, sm.trans s3⟩⟩⟩⟩⟩
  · obtain ⟨hk, sm⟩ := h
    refine ⟨Nat.zero_le _, fun z hz' => ?_⟩
    have sz := same_new (o := .lst []) hz'
    refine ⟨_, _, dp_nil (sql (sz _ _ hk)), dp_nil (sql upd_same), shaped_ints _, shaped_ints _, ?_⟩
    rw [eqv_ints, decide_eq_true rfl]
    exact k _ (sm.trans sz)

end
end Rn
namespace Rn
open PySem PySem.Spec PyProof.Rows L2
section
variable {P : Program} {w : World} {K : PySem.W.Frag} {mg : Str → Option Value} {base : Heap}
def sp_law_number_drawn (K : PySem.W.Frag) : Sp := fun vs H Q _ => ∃ (a d : Addr) (n top : Int), vs = [.ref a, .int top] ∧ Src H a d n ∧ n ≤ 100000000000000 ∧ 10 ≤ top ∧ top < 2 ^ 100 ∧
  ∀ H' r, Adv a d 3 H H' → 0 ≤ r → r < top → Q (.int r) H'
theorem ok_law_number_drawn (T : Txt K mg) : FnOk P w K mg base CX0 2 T.f_law_number_drawn T.d_law_number_drawn ["source", "top"] (sp_law_number_drawn K) := by
  have G_law_draw := ok_law_draw (P := P) (w := w) (base := base) T
  refine T.F_law_number_drawn.ok sc_law_number_drawn (fun vs H Q E h => ?_) (fun cdv A outer s H vs Q E hr h => ?_)
  · obtain ⟨a, d, n, top, rfl, _⟩ := h
    rfl
  obtain ⟨a, d, n, top, rfl, hS, hn, t0, t1, q⟩ := h
  refine ⟨_, (pss_one (ps_ret (pe_ix ix_list (pe_lst (pa_cons pe_int (pa_cons (pe_op op_add pe_int (pe_call G_law_draw hr (by rfl) T.g_law_draw T.F_law_draw.kp T.b_law_draw .nil pass0 (pa_cons (pv 0) (pa_cons pe_int pa_nil)))) (pa_cons (pe_call G_law_draw hr (by rfl) T.g_law_draw T.F_law_draw.kp T.b_law_draw .nil pass0 (pa_cons (pv 0) (pa_cons (pv 1) pa_nil))) (pa_cons (pe_op op_sub (pv 1) pe_int) pa_nil))))) (pe_call G_law_draw hr (by rfl) T.g_law_draw T.F_law_draw.kp T.b_law_draw .nil pass0 (pa_cons (pv 0) (pa_cons pe_int pa_nil))) (fun _ _ => rfl)))), ?_⟩
  refine ⟨_, rfl, a, d, n, 9, rfl, hS, by omega, by decide, by decide, fun H1 r1 A1 l1 u1 => ⟨_, _, rfl, rfl, ?_⟩⟩
  have S1 := A1.src n hS
  refine ⟨_, rfl, _, rfl, a, d, _, top, rfl, S1, by omega, by omega, t1, fun H2 r2 A2 l2 u2 => ?_⟩
  have S2 := A2.src _ S1
  refine ⟨_, rfl, _, _, rfl, rfl, size_le (by show 4 ≤ 100000; decide), fun o ho => ?_⟩
  have A3 : Adv a d 0 H2 (upd H2 o (.lst [.int 0, .int (1 + r1), .int r2, .int (top - 1)])) := Adv.of (same_new ho)
  have no := S2.new1 ho
  have ho3 : hid a d (upd H2 o (.lst [.int 0, .int (1 + r1), .int r2, .int (top - 1)])) o = some (.lst ([0, 1 + r1, r2, top - 1].map V.int)) := by
    rw [hid_oth no.1 no.2, upd_same]
    rfl
  have S3 := A3.src _ S2
  generalize upd H2 o (.lst [.int 0, .int (1 + r1), .int r2, .int (top - 1)]) = H3 at *
  refine ⟨_, rfl, a, d, _, 4, rfl, S3, by omega, by decide, by decide, fun H5 r5 A5 l5 u5 => ?_⟩
  obtain ⟨x, hx, _, hat⟩ := at_int (ns := [0, 1 + r1, r2, top - 1]) l5 u5
  have hb : 0 ≤ x ∧ x < top := by
    simp only [List.mem_cons, List.not_mem_nil, or_false] at hx
    omega
  exact ⟨o, _, r5, .int x, rfl, rfl, sql (hid_get (A5.same _ _ ho3)).1, hat, q H5 x ((A1.trans (A2.trans (A3.trans A5 (Int.le_refl _)) (Int.le_refl _)) (Int.le_refl _)).mono (by omega)) hb.1 hb.2⟩

end
end Rn
namespace Rn
open PySem PySem.Spec PyProof.Rows L2
section
variable {P : Program} {w : World} {K : PySem.W.Frag} {mg : Str → Option Value} {base : Heap}
def sp_law_any_nesting (K : PySem.W.Frag) : Sp := fun vs H Q _ => ∃ (a d : Addr) (n : Int), vs = [.ref a] ∧ Src H a d n ∧ n ≤ 1000000000000 ∧
  ∀ H' p us Ls, Adv a d 1000 H H' → H p = none → NestV H (hid a d H') p us Ls → Ls.length ≤ 8 → (∀ L ∈ Ls, L.nice) → Q (.ref p) H'
theorem ok_law_any_nesting (T : Txt K mg) : FnOk P w K mg base CX0 3 T.f_law_any_nesting T.d_law_any_nesting ["source"] (sp_law_any_nesting K) := by
  have G_law_draw := (ok_law_draw (P := P) (w := w) (base := base) T).mono (by decide : 1 ≤ 2)
  have G_law_number_drawn := (ok_law_number_drawn (P := P) (w := w) (base := base) T)
  refine T.F_law_any_nesting.ok sc_law_any_nesting (fun vs H Q E h => ?_) (fun cdv A outer s H vs Q E hr h => ?_)
  · obtain ⟨a, d, n, rfl, _⟩ := h
    rfl
  obtain ⟨a, d, n, rfl, hS, hn, q⟩ := h
  refine ⟨_, (pss_cons (ps_set (i := 1) sc_law_any_nesting.nd rfl (Or.inl rfl) (pe_lst pa_nil))
      (pss_cons (ps_for PassesOwn.never rfl (pi_range1 (by rfl) T.m_range (pa_cons (pe_call G_law_draw hr (by rfl) T.g_law_draw T.F_law_draw.kp T.b_law_draw .nil pass0 (pa_cons (pv 0) (pa_cons pe_int pa_nil))) pa_nil)) (pg_name (i := 2) sc_law_any_nesting.nd rfl (Or.inl rfl))
      (pss_cons (ps_set (i := 3) sc_law_any_nesting.nd rfl (Or.inl rfl) (pe_call G_law_draw hr (by rfl) T.g_law_draw T.F_law_draw.kp T.b_law_draw .nil pass0 (pa_cons (pv 0) (pa_cons (pe_ix ix_list (pe_lst (pa_cons pe_int (pa_cons pe_int (pa_cons pe_int pa_nil)))) (pe_call G_law_draw hr (by rfl) T.g_law_draw T.F_law_draw.kp T.b_law_draw .nil pass0 (pa_cons (pv 0) (pa_cons pe_int pa_nil))) (fun _ _ => rfl)) pa_nil))))
      (pss_cons (ps_setLc (i := 4) (own := [("one", 6)]) (g := gName 6) (tt := tYes) rfl sc_law_any_nesting.nd rfl rfl (sw_true rfl rfl rfl (by decide +kernel)) (pi_range1 (by rfl) T.m_range (pa_cons (pv 3) pa_nil)) (blkOk_by (N := ["source", "found", "k", "many", "numbers", "size", "one"]) (sc := defScope s_law_any_nesting) (by decide +kernel)) (fun _ _ _ _ _ => (pg_name (i := 6) sc_law_any_nesting.nd rfl (Or.inl rfl))) (fun _ _ _ _ _ => pts_nil) (fun _ _ _ _ _ => (pe_call G_law_number_drawn hr (by rfl) T.g_law_number_drawn T.F_law_number_drawn.kp T.b_law_number_drawn .nil pass0 (pa_cons (pv 0) (pa_cons (pe_op op_pow pe_int pe_int) pa_nil)))))
      (pss_cons (ps_set (i := 5) sc_law_any_nesting.nd rfl (Or.inl rfl) (pe_callB (call_max2 rfl) (by rfl) T.m_max (by decide +kernel) (pa_cons pe_int (pa_cons (pe_call G_law_number_drawn hr (by rfl) T.g_law_number_drawn T.F_law_number_drawn.kp T.b_law_number_drawn .nil pass0 (pa_cons (pv 0) (pa_cons (pe_op op_pow pe_int pe_int) pa_nil))) pa_nil))))
      (pss_one (ps_expr (pe_bm PySem.F.plainAttrs_list PySem.F.slot_list_append PySem.F.type_list_append mt_append (pv 1) (pa_cons (pe_ix ix_list (pe_lst (pa_cons (pv 4) (pa_cons (pe_tup (pa_cons (pe_call G_law_number_drawn hr (by rfl) T.g_law_number_drawn T.F_law_number_drawn.kp T.b_law_number_drawn .nil pass0 (pa_cons (pv 0) (pa_cons (pe_op op_pow pe_int pe_int) pa_nil))) (pa_cons (pv 5) pa_nil))) pa_nil))) (pe_call G_law_draw hr (by rfl) T.g_law_draw T.F_law_draw.kp T.b_law_draw .nil pass0 (pa_cons (pv 0) (pa_cons pe_int pa_nil))) (fun _ _ => rfl)) pa_nil))))))))
      (pss_one (ps_ret (pv 1))))), ?_⟩
  refine ⟨Nat.zero_le _, fun p hp => ?_⟩
  have np := hS.new1 hp
  have A1 : Adv a d 0 H (upd H p (.lst [])) := Adv.of (same_new hp)
  have e1 : hid a d (upd H p (.lst [])) p = some (.lst []) := by rw [hid_oth np.1 np.2, upd_same]
  have S1 := A1.src _ hS
  generalize upd H p (.lst []) = H1 at *
  have p12 : (10 : Int) ^ (12 : Int).toNat = 1000000000000 := by decide
  have p20 : (10 : Int) ^ (20 : Int).toNat = 100000000000000000000 := by decide
  refine ⟨_, rfl, a, d, _, 9, rfl, S1, by omega, by decide, by decide, fun H2 r2 A2 l2 u2 => ⟨_, rfl, by omega, by omega, ?_⟩⟩
  refine for_range (lo := 0) (n := r2.toNat) (fun i σ H' => ∃ us Ls y2 y3 y4 y5 y6, σ = [some (.ref a), some (.ref p), y2, y3, y4, y5, y6] ∧ NestV H (hid a d H') p us Ls ∧ Ls.length = i ∧ (∀ L ∈ Ls, L.nice) ∧ Adv a d (1 + 100 * i) H H')
    ⟨[], [], none, none, none, none, none, rfl, NestV.nil (A2.same _ _ e1), rfl, (fun _ z => nomatch z), (A1.trans A2 (Int.le_refl _)).mono (by omega)⟩ (fun i σ H3 hi h => ?_) (fun σ H3 h => ?_)
  · obtain ⟨us, Ls, y2, y3, y4, y5, y6, rfl, hv, hlen, hnice, A3⟩ := h
    have S3 := A3.src n hS
    have i8 : i < 8 := by omega
    -- many
    refine ⟨_, rfl, size_le (by show 3 ≤ 100000; decide), fun o ho => ?_⟩
    have no := S3.new1 ho
    have A4 : Adv a d 0 H3 (upd H3 o (.lst [.int 2, .int 5, .int 20])) := Adv.of (same_new ho)
    have ho4 : hid a d (upd H3 o (.lst [.int 2, .int 5, .int 20])) o = some (.lst (([2, 5, 20] : List Int).map V.int)) := by
      rw [hid_oth no.1 no.2, upd_same]
      rfl
    have S4 := A4.src _ S3
    generalize upd H3 o (.lst [.int 2, .int 5, .int 20]) = H4 at *
    refine ⟨_, rfl, a, d, _, 3, rfl, S4, by omega, by decide, by decide, fun H5 r5 A5 l5 u5 => ?_⟩
    obtain ⟨m1, hm1', _, hat1⟩ := at_int (ns := [2, 5, 20]) l5 u5
    have hm1b : 2 ≤ m1 ∧ m1 ≤ 20 := by
      simp only [List.mem_cons, List.not_mem_nil, or_false] at hm1'
      omega
    have S5 := A5.src _ S4
    refine ⟨o, _, r5, .int m1, rfl, rfl, sql (hid_get (A5.same _ _ ho4)).1, hat1, a, d, _, m1, rfl, S5, by omega, by omega, by omega, fun H6 mn A6 l6 u6 => ?_⟩
    have S6 := A6.src _ S5
    have B6 : Adv a d 2 H3 H6 := (A4.trans (A5.trans A6 (Int.le_refl _)) (Int.le_refl _)).mono (by omega)
    have hv6 := hv.same B6.same
    clear A4 A5 A6 S4 S5 ho4 hat1
    -- numbers
    refine ⟨_, rfl, _, rfl, by omega, by omega, fun D hD => ?_⟩
    have Da := S6.new1 hD
    have DH : H D = none := (A3.trans B6 (Int.le_refl _)).free hS hD
    have Dp : D ≠ p := fun z => by rw [z, (hid_get hv6.1).1] at hD; cases hD
    refine lc_range (lo := 0) (n := _) (fun j H' => ∃ ws : List Int, hid a d H' D = some (.lst (ws.map V.int)) ∧ ws.length = j ∧ (∀ x ∈ ws, 0 ≤ x ∧ x < 1000000000000) ∧ Adv a d (3 * j) H6 H')
      ⟨[], hid_at upd_same Da.1 Da.2, rfl, (fun _ z => nomatch z), (Adv.of (same_new hD)).mono (by omega)⟩ (fun j H7 hj h => ?_) (fun H7 h => ?_)
    · obtain ⟨ws, hw, lw, kw, A7⟩ := h
      have S7 := A7.src _ S6
      refine ⟨rfl, yes_thn ⟨_, rfl, _, _, rfl, rfl, ⟨by decide, by decide, by decide⟩, a, d, _, _, rfl, S7, by omega, by rw [p12]; decide, by rw [p12]; decide, fun H8 r A8 l u => ?_⟩⟩
      rw [p12] at u
      refine ⟨_, (hid_get (A8.same _ _ hw)).1, size_lt (by rw [List.length_map]; omega), ws ++ [r], by rw [hid_oth Da.1 Da.2, upd_same, List.map_append]; rfl, by rw [List.length_append, lw]; rfl, fun y hy => ?_, ((A7.trans A8 (Int.le_refl _)).mut S6 hD).mono (by omega)⟩
      rcases List.mem_append.mp hy with z | z
      · exact kw y z
      · rw [List.mem_singleton.mp z]
        exact ⟨l, u⟩
    obtain ⟨ws, hw, lw, kw, A7⟩ := h
    have S7 := A7.src _ S6
    have lw20 : ws.length ≤ 20 := by omega
    -- size
    refine ⟨_, rfl, _, _, rfl, rfl, ⟨by decide, by decide, by decide⟩, a, d, _, _, rfl, S7, by omega, by rw [p20]; decide, by rw [p20]; decide, fun H8 r8 A8 l8 u8 => ?_⟩
    rw [p20] at u8
    have S8 := A8.src _ S7
    obtain ⟨sz, esz, sz1, sz2⟩ : ∃ sz : Int, (if r8 > 1 then r8 else 1) = sz ∧ 1 ≤ sz ∧ sz < 100000000000000000000 := ⟨_, rfl, by split <;> omega, by split <;> omega⟩
    refine ⟨_, _, rfl, ?_⟩
    rw [esz]
    -- found.append([numbers, (.., size)][..])
    have B8 := A7.trans A8 (Int.le_refl _)
    have hv8 := hv6.same B8.same
    have hw8 := A8.same _ _ hw
    refine ⟨_, rfl, .inl ⟨rfl, _, sql (hid_get hv8.1).1⟩, _, rfl, _, rfl, _, _, rfl, rfl, ⟨by decide, by decide, by decide⟩, a, d, _, _, rfl, S8, by omega, by rw [p12]; decide, by rw [p12]; decide, fun H9 r9 A9 l9 u9 => ?_⟩
    rw [p12] at u9
    have S9 := A9.src _ S8
    refine ⟨_, rfl, size_le (by show 2 ≤ 100000; decide), fun t ht => ?_⟩
    have ta := S9.new1 ht
    have st := same_new (o := .tup [.int r9, .int sz]) ht
    have et : hid a d (upd H9 t (.tup [.int r9, .int sz])) t = some (.tup [.int r9, .int sz]) := hid_at upd_same ta.1 ta.2
    have tH : H t = none := (A3.trans (B6.trans (B8.trans A9 (Int.le_refl _)) (Int.le_refl _)) (Int.le_refl _)).free hS ht
    have tp : t ≠ p := fun z => by rw [z, (hid_get (A9.same _ _ hv8.1)).1] at ht; cases ht
    generalize upd H9 t (.tup [.int r9, .int sz]) = Ha at *
    have Sa := S9.same st
    refine ⟨size_le (by show 2 ≤ 100000; decide), fun o2 ho2 => ?_⟩
    have o2a := Sa.new1 ho2
    have so2 := same_new (o := .lst [.ref D, .ref t]) ho2
    have eo2 : hid a d (upd Ha o2 (.lst [.ref D, .ref t])) o2 = some (.lst [.ref D, .ref t]) := hid_at upd_same o2a.1 o2a.2
    generalize upd Ha o2 (.lst [.ref D, .ref t]) = Hb at *
    have Sb := Sa.same so2
    refine ⟨_, rfl, a, d, _, 2, rfl, Sb, by omega, by decide, by decide, fun Hc rc Ac lc uc => ?_⟩
    have B9 : Adv a d 4 H8 Hc := (A9.trans ((Adv.of (st.trans so2)).trans Ac (Int.le_refl _)) (Int.le_refl _)).mono (by omega)
    have kc : Adv a d (1 + 100 * (i + 1 : Nat)) H Hc := (A3.trans (B6.trans (B8.trans B9 (Int.le_refl _)) (Int.le_refl _)) (Int.le_refl _)).mono (by omega)
    have hvc := hv8.same B9.same
    have hwc := B9.same _ _ hw8
    have etc := Ac.same _ _ (hid_same (a := a) (d := d) so2 _ _ et)
    have lus := hvc.2.1
    have fin : ∀ (x : Addr) (L : Lay), LayAt (hid a d Hc) (.ref x) L → L.nice → x ≠ p → H x = none → ∃ us' Ls' y2' y3' y4' y5' y6', [some (V.ref a), some (.ref p), some (.int (0 + (i : Int))), some (.int mn), some (.ref D), some (.int sz), y6] = [some (.ref a), some (.ref p), y2', y3', y4', y5', y6'] ∧ NestV H (hid a d (upd Hc p (.lst (us ++ [.ref x])))) p us' Ls' ∧ Ls'.length = i + 1 ∧ (∀ L ∈ Ls', L.nice) ∧ Adv a d (1 + 100 * (i + 1 : Nat)) H (upd Hc p (.lst (us ++ [.ref x]))) := fun x L hl hn ne fr =>
      ⟨us ++ [.ref x], Ls ++ [L], _, _, _, _, _, rfl, by rw [hid_oth np.1 np.2]; exact hvc.push hl ne fr, by rw [List.length_append, hlen]; rfl, fun M hM => by
        rcases List.mem_append.mp hM with z | z
        · exact hnice M z
        · rw [List.mem_singleton.mp z]
          exact hn, kc.mut hS hp⟩
    have rc2 : rc = 0 ∨ rc = 1 := by omega
    rcases rc2 with rfl | rfl
    · exact ⟨o2, _, 0, .ref D, rfl, rfl, sql (hid_get (Ac.same _ _ eo2)).1, rfl, p, us, .ref D, rfl, rfl, (hid_get hvc.1).1, size_lt (by omega), fin D (.pol ws) ⟨D, rfl, hwc⟩ (Lay.nice_pol (by omega) kw) Dp DH⟩
    · exact ⟨o2, _, 1, .ref t, rfl, rfl, sql (hid_get (Ac.same _ _ eo2)).1, rfl, p, us, .ref t, rfl, rfl, (hid_get hvc.1).1, size_lt (by omega), fin t (.con r9 sz) ⟨t, rfl, etc⟩ (Lay.nice_con l9 u9 sz1 (by omega)) tp tH⟩
  · obtain ⟨us, Ls, y2, y3, y4, y5, y6, rfl, hv, hlen, hnice, A3⟩ := h
    exact ⟨_, rfl, q H3 p us Ls (A3.mono (by omega)) hp hv (by omega) hnice⟩

end
end Rn
namespace Rn
open PySem PySem.Spec PyProof.Rows L2
section
variable {P : Program} {w : World} {K : PySem.W.Frag} {mg : Str → Option Value} {base : Heap}
theorem jI_two : ∀ ps : List (List Nat), (TL.joinL [44, 32] ps).length ≤ (TL.joinL [44] ps).length + ps.length
  | [] => Nat.zero_le _
  | [p] => Nat.le_add_right _ _
  | p :: q :: r => by
    have ih := jI_two (q :: r)
    show (p ++ ([44, 32] ++ TL.joinL [44, 32] (q :: r))).length ≤ (p ++ ([44] ++ TL.joinL [44] (q :: r))).length + (p :: q :: r).length
    simp only [List.length_append, List.length_cons, List.length_nil] at *
    omega
def sp_law_shown (K : PySem.W.Frag) : Sp := fun vs H Q _ => ∃ (p : Addr) (Ls : List Lay), vs = [.ref p] ∧ NestAt H p Ls ∧ (∀ L ∈ Ls, Txb L) ∧ Ls.length ≤ 1000 ∧ ∀ H' t, Same H H' → TL.tl t = showN Ls → Q (.str t) H'
theorem ok_law_shown (T : Txt K mg) : FnH P w K mg base 1 T.f_law_shown T.d_law_shown ["layers"] (sp_law_shown K) := by
  refine ⟨fun vs H Q E h => ?_, okG T.F_law_shown sc_law_shown (fun cdv A outer s H vs Q E gu hr h => ?_)⟩
  · obtain ⟨p, Ls, rfl, _⟩ := h
    rfl
  obtain ⟨p, Ls, rfl, hN, hx, l20, q⟩ := h
  obtain ⟨vs, hp, lv, av⟩ := id hN
  refine ⟨_, (pss_cons (ps_if (pt_cmpR (op_eqD hr.units) (pv 0) (pe_lst pa_nil) (nomark _))
      (pss_one (ps_ret pe_str))
      pss_nil)
      (pss_cons (ps_set (i := 1) sc_law_shown.nd rfl (Or.inl rfl) pe_str)
      (pss_cons (ps_for PassesOwn.never rfl (pi_list (pv 0)) (pg_name (i := 2) sc_law_shown.nd rfl (Or.inl rfl))
      (pss_setK (i := 1) sc_law_shown.nd rfl (Or.inl rfl) (pek_opR op_add_str (pv 1) (pek_opL op_mulS pek_str (pe_callTy call_int1 (by rfl) T.m_int (by decide +kernel) (pa_cons (pe_cmpR op_ne (pv 1) pe_str (nomark _)) pa_nil))))
      (CwR.psst_one (CwR.pst_if (pt_val (pe_callB call_isi (by rfl) T.m_isinstance (by decide +kernel) (pa_cons (pv 2) (pa_cons (pe_bltn (v := .ty "tuple") (by rfl) T.m_tuple (by decide +kernel) rfl) pa_nil))))
      (CwR.psst_one (PST.of (ps_set (i := 1) sc_law_shown.nd rfl (Or.inl rfl) (pe_op op_add_str (pe_op op_add_str (pe_op op_add_str (pv 1) (pe_callB (call_reprN T.nd hr) (by rfl) T.m_repr (by decide +kernel) (pa_cons (pe_ix ix_tup (pv 2) pe_int (fun _ _ => rfl)) pa_nil))) pe_str) (pe_callB (call_reprN T.nd hr) (by rfl) T.m_repr (by decide +kernel) (pa_cons (pe_ix ix_tup (pv 2) pe_int (fun _ _ => rfl)) pa_nil))))))
      (CwR.psst_one (pst_set (i := 1) sc_law_shown.nd rfl (Or.inl rfl) (CwR.pet_op op_add_str (CwR.pet_op op_add_str (CwR.PET.of (pv 1)) (CwR.pet_replC (pe_slice sl_str (pe_callB (call_reprL T.nd gu hr) (by rfl) T.m_repr (by decide +kernel) (pa_cons (pv 2) pa_nil)) (po_some pe_int) (po_some (pe_un un_neg pe_int))))) (CwR.PET.of (pe_op op_mulS pe_str (pe_callTy call_int1 (by rfl) T.m_int (by decide +kernel) (pa_cons (pe_cmpR (op_eqD hr.units) (pv 2) (pe_lst pa_nil) (nomark _)) pa_nil)))))))))))
      (pss_one (ps_ret (pv 1)))))), ?_⟩
  refine ⟨_, rfl, Nat.zero_le _, fun z hz => ?_⟩
  have sz := same_new (o := .lst []) hz
  refine ⟨_, _, dp_nest (hN.same sz), dp_nest (Ls := []) (nest_of upd_same .nil), shaped_lays _, shaped_lays _, _, rfl, ?_⟩
  generalize upd H z (.lst []) = H1 at *
  rw [eqv_lays]
  by_cases em : Ls = []
  · rw [laysB_iff.mpr em]
    subst em
    exact iteT (q _ _ sz rfl)
  rw [show laysB Ls [] = false from Bool.eq_false_iff.mpr fun z => em (laysB_iff.mp z)]
  refine iteF ?_
  refine ⟨_, rfl, p, rfl, ⟨_, sql (sz _ _ hp)⟩, for_list (xs := vs) (fun i σ H' => ∃ (t : Str) (y2 : Option V), σ = [some (.ref p), some (.str t), y2] ∧ Same H H' ∧ TL.tl t = TL.joinL [32, 47, 32] ((Ls.take i).map showL)) ⟨_, none, rfl, sz, rfl⟩ (fun i σ H' _ h => by obtain ⟨_, _, _, sm, _⟩ := h; exact sql (sm _ _ hp)) (fun i v σ H' hv h => ?_) (fun σ H' h => ?_)⟩
  · obtain ⟨t, y2, rfl, sm, et⟩ := h
    have hi : i < Ls.length := by rw [← lv]; exact (List.getElem?_eq_some_iff.mp hv).1
    have hM := List.getElem?_eq_getElem hi
    have lay := av i v _ hv hM
    have xm := hx _ (List.getElem_mem hi)
    have tk : Ls.take (i + 1) = Ls.take i ++ [Ls[i]] := by rw [List.take_add_one, hM]; rfl
    have i20 : i ≤ 1000 := by omega
    have tl9 : t.length ≤ 10003000 := by
      rw [TL.len_tl, et]
      have a := joinL_len (S := [32, 47, 32]) (B := 10000) (ps := (Ls.take i).map showL) fun p hp => by
        obtain ⟨M, hM, rfl⟩ := List.mem_map.mp hp
        exact (hx M (List.mem_of_mem_take hM)).2.1
      rw [List.length_map, List.length_take] at a
      have e : min i Ls.length * (10000 + [32, 47, 32].length) ≤ 1000 * 10003 := Nat.mul_le_mul (by omega) (by decide)
      omega
    have emp : t = Str.ofString "" ↔ Ls.take i = [] := by
      constructor
      · intro z
        rw [z] at et
        have et : [] = TL.joinL [32, 47, 32] ((Ls.take i).map showL) := et
        rcases h : Ls.take i with _ | ⟨M, Ms⟩
        · rfl
        · rw [h] at et
          exact absurd et.symm (joinL_ne (by simp) fun p hp => by
            obtain ⟨N, _, rfl⟩ := List.mem_map.mp hp
            exact showL_ne N)
      · intro z
        rw [z] at et
        exact TL.ext_tl et
    generalize Ls[i] = L at *
    have key : ∀ b : Bool, b = (!decide (V.str t = V.str (Str.ofString ""))) → TL.tl (t ++ (if b = true then Str.ofString " / " else Str.empty)) ++ showL L = TL.joinL [32, 47, 32] ((Ls.take (i + 1)).map showL) := fun b hb => by
      rw [tk, List.map_append]
      by_cases e : Ls.take i = []
      · have te := emp.mpr e
        rw [te, decide_eq_true rfl] at hb
        rw [hb, e, te]
        rfl
      · have te : decide (V.str t = V.str (Str.ofString "")) = false := decide_eq_false fun z => e (emp.mp (V.str.inj z))
        rw [te] at hb
        rw [hb, Bool.not_false, if_pos rfl, TL.tl_append, et]
        show _ = TL.joinL [32, 47, 32] ((Ls.take i).map showL ++ [showL L])
        rw [joinL_snoc (by simpa using e), List.append_assoc]
        rfl
    refine ⟨_, rfl, _, rfl, rfl, .inr ⟨_, rfl, _, _, rfl, rfl, _, _, rfl, rfl, ?_, ?_⟩⟩
    · split
      · exact size_leT (by show t.length + 3 ≤ 16777216; omega)
      · exact size_leT (by show t.length + 0 ≤ 16777216; omega)
    have key := key _ rfl
    have lt' : (t ++ (if (!decide (V.str t = V.str (Str.ofString ""))) = true then Str.ofString " / " else Str.empty)).length ≤ 10003003 := by
      rw [TL.len_tl, TL.tl_append, List.length_append, ← TL.len_tl]
      split
      · show t.length + 3 ≤ 10003003; omega
      · show t.length + 0 ≤ 10003003; omega
    generalize t ++ (if (!decide (V.str t = V.str (Str.ofString ""))) = true then Str.ofString " / " else Str.empty) = t' at *
    cases L with
    | con wt n =>
      obtain ⟨x, rfl, hx0⟩ := lay
      obtain ⟨a0, b0⟩ := con_nn xm.1
      obtain ⟨a1, b1⟩ := xm.2.2
      have hx1 := sm _ _ hx0
      have ew := tl_numI a0
      have en := tl_numI (show 0 ≤ n by omega)
      have lw : (Str.ofString (toString wt)).length ≤ 2000 := by rw [TL.len_tl, ew]; exact a1
      have ln : (Str.ofString (toString n)).length ≤ 2000 := by rw [TL.len_tl, en]; exact b1
      refine ⟨_, rfl, _, _, _, _, true, rfl, .ty "tuple", .base (.tup hx1), kit_ty (by decide +kernel), true, rfl, iteT ?_⟩
      refine ⟨_, rfl, _, rfl, x, _, 0, _, rfl, rfl, sqt hx1, rfl, wt, rfl, num_fits a0 a1, _, _, rfl, rfl, size_leT (by omega), ?_⟩
      refine ⟨_, _, rfl, rfl, size_leT ?_, ?_⟩
      · rw [TL.len_tl, TL.tl_append, List.length_append, ← TL.len_tl, ← TL.len_tl]
        show t'.length + (Str.ofString (toString wt)).length + 1 ≤ _
        omega
      refine ⟨_, rfl, x, _, 1, _, rfl, rfl, sqt hx1, rfl, n, rfl, num_fits (by omega) b1, _, _, rfl, rfl, size_leT ?_, ?_⟩
      · rw [TL.len_tl, TL.tl_append, TL.tl_append, List.length_append, List.length_append, ← TL.len_tl, ← TL.len_tl]
        show t'.length + (Str.ofString (toString wt)).length + 1 + (Str.ofString (toString n)).length ≤ _
        omega
      · refine ⟨_, _, rfl, sm, ?_⟩
        rw [← key, TL.tl_append, TL.tl_append, TL.tl_append, ew, en]
        show _ = TL.tl t' ++ (TL.numL wt.toNat ++ 120 :: TL.numL n.toNat)
        simp only [List.append_assoc]
        rfl
    | pol ns =>
      obtain ⟨x, rfl, hx0⟩ := lay
      have nn := pol_nn xm.1
      have bd := fun y hy => And.intro (nn y hy) (xm.2.2.2 y hy)
      have hx1 := sm _ _ hx0
      refine ⟨_, rfl, _, _, _, _, false, rfl, .ty "tuple", .base (.lst hx1), kit_ty (by decide +kernel), false, rfl, iteF ?_⟩
      have j12 : (jI ns).length ≤ 12000 ∧ (TL.joinL [44] (numsL ns)).length ≤ 10000 := by
        have a := jI_two (numsL ns)
        rw [← jI_eq, show (numsL ns).length = ns.length from List.length_map ..] at a
        have b : (TL.joinL [44] (numsL ns)).length ≤ 10000 := by
          have := xm.2.1
          cases ns with
          | nil => exact Nat.zero_le _
          | cons n ns => exact this
        have := xm.2.2.1
        exact ⟨by omega, b⟩
      have fit : (PyData.shown (dInts ns)).length ≤ 16777216 := by
        have e : TL.tl (PyData.shown (dInts ns)) = 91 :: (jI ns ++ [93]) := lt_pol xm.1
        rw [TL.len_tl, e, List.length_cons, List.length_append, List.length_singleton]
        omega
      refine ⟨_, rfl, _, rfl, x, ns, rfl, hx1, (fun y hy => num_fits (bd y hy).1 (bd y hy).2), size_leT fit, ?_⟩
      have l4 := xm.2.2.1
      have ec : TL.tl (cutS (PyData.shown (dInts ns)) (some 1) (some (-1))) = jI ns := cut_in (lt_pol xm.1)
      have lc : (cutS (PyData.shown (dInts ns)) (some 1) (some (-1))).length ≤ 12000 := by
        rw [TL.len_tl, ec]
        exact j12.1
      have er := replace_nums ec
      have lr : (Txt.replace (cutS (PyData.shown (dInts ns)) (some 1) (some (-1))) (Str.ofString ", ") (Str.ofString ",")).length ≤ 12000 := by
        rw [TL.len_tl, er]
        exact Nat.le_trans j12.2 (by decide)
      refine ⟨_, rfl, _, rfl, _, rfl, _, rfl, size_leT fit, _, rfl, ?_, _, _, rfl, rfl, size_leT (by omega), ?_⟩
      · show _ + (_ + 1) * 1 ≤ 16777216
        omega
      have lay1 : LayAt H' (V.ref x) (.pol ns) := ⟨x, rfl, hx1⟩
      generalize cutS (PyData.shown (dInts ns)) (some 1) (some (-1)) = c at *
      generalize Txt.replace c (Str.ofString ", ") (Str.ofString ",") = rp at *
      refine ⟨_, rfl, Nat.zero_le _, fun z hz => ?_⟩
      have sz2 := same_new (o := .lst []) hz
      refine ⟨_, _, dp_ints (sql (sz2 _ _ hx1)), dp_nil (sql upd_same), shaped_ints _, shaped_ints _, .inr ⟨_, rfl, _, _, rfl, rfl, _, _, rfl, rfl, ?_, _, _, rfl, sm.trans sz2, ?_⟩⟩
      · rw [TL.len_tl, TL.tl_append, List.length_append, ← TL.len_tl, ← TL.len_tl]
        split
        · exact size_leT (by show t'.length + rp.length + 1 ≤ _; omega)
        · exact size_leT (by show t'.length + rp.length + 0 ≤ _; omega)
      · rw [← key, eqv_ints, TL.tl_append, TL.tl_append, er]
        cases ns with
        | nil =>
          rw [decide_eq_true rfl, if_pos rfl]
          show TL.tl t' ++ [] ++ [45] = TL.tl t' ++ [45]
          rw [List.append_nil]
        | cons n ns =>
          rw [decide_eq_false (fun z => nomatch z)]
          show TL.tl t' ++ TL.joinL [44] (numsL (n :: ns)) ++ [] = TL.tl t' ++ TL.joinL [44] (numsL (n :: ns))
          rw [List.append_nil]
  · obtain ⟨t, y2, rfl, sm, et⟩ := h
    rw [lv, List.take_length] at et
    refine ⟨_, rfl, q H' t sm ?_⟩
    rw [et]
    cases Ls with
    | nil => exact absurd rfl em
    | cons L Ls => rfl

end
end Rn
namespace Rn
open PySem PySem.Spec PyProof.Rows L2
section
variable {P : Program} {w : World} {K : PySem.W.Frag} {mg : Str → Option Value} {base : Heap}
theorem rep_lenN (xs : List Nat) : ∀ t, (List.replicate t xs).flatten.length = t * xs.length
  | 0 => by simp
  | t + 1 => by rw [List.replicate_succ, List.flatten_cons, List.length_append, rep_lenN xs t, Nat.succ_mul, Nat.add_comm]
theorem join_ones : ∀ cs : List Nat, TL.joinL [] (cs.map fun c => [c]) = cs
  | [] => rfl
  | [c] => rfl
  | c :: b :: cs => by
    show [c] ++ ([] ++ TL.joinL [] ((b :: cs).map fun c => [c])) = _
    rw [join_ones (b :: cs)]
    rfl
def sp_law_long (K : PySem.W.Frag) : Sp := fun vs H Q _ => ∃ (a d : Addr) (n : Int), vs = [.ref a] ∧ Src H a d n ∧ n ≤ 100000000000000 ∧ ∀ H' m, Adv a d 50 H H' → 1 ≤ m → (TL.numL (m : Int).toNat).length ≤ 2000 → Q (.int m) H'
theorem ok_law_long (T : Txt K mg) : FnOk P w K mg base CX0 2 T.f_law_long T.d_law_long ["source"] (sp_law_long K) := by
  have G_law_draw := ok_law_draw (P := P) (w := w) (base := base) T
  refine T.F_law_long.ok sc_law_long (fun vs H Q E h => ?_) (fun cdv A outer s H vs Q E hr h => ?_)
  · obtain ⟨a, d, n, rfl, _⟩ := h
    rfl
  obtain ⟨a, d, n, rfl, hS, hn, q⟩ := h
  refine ⟨_, (pss_cons (ps_set (i := 1) sc_law_long.nd rfl (Or.inl rfl) (pe_ix ix_list (pe_lst (pa_cons pe_int (pa_cons pe_int (pa_cons pe_int (pa_cons pe_int pa_nil))))) (pe_call G_law_draw hr (by rfl) T.g_law_draw T.F_law_draw.kp T.b_law_draw .nil pass0 (pa_cons (pv 0) (pa_cons pe_int pa_nil))) (fun _ _ => rfl)))
      (pss_cons (ps_set (i := 2) sc_law_long.nd rfl (Or.inl rfl) (pe_lst (pa_cons (pe_ix ix_str pe_str (pe_call G_law_draw hr (by rfl) T.g_law_draw T.F_law_draw.kp T.b_law_draw .nil pass0 (pa_cons (pv 0) (pa_cons pe_int pa_nil))) (fun _ _ => rfl)) pa_nil)))
      (pss_cons (ps_set (i := 2) sc_law_long.nd rfl (Or.inl rfl) (pe_op op_cat (pv 2) (pe_lc (own := [("one", 3)]) (g := gName 3) (tt := tYes) rfl sc_law_long.nd (pi_range1 (by rfl) T.m_range (pa_cons pe_int pa_nil)) (blkOk_by (N := ["source", "size", "digits", "one"]) (sc := defScope s_law_long) (by decide +kernel)) (fun _ _ _ _ _ => (pg_name (i := 3) sc_law_long.nd rfl (Or.inl rfl))) (fun _ _ _ _ _ => pts_nil) (fun _ _ _ _ _ => (pe_ix ix_str pe_str (pe_call G_law_draw hr (by rfl) T.g_law_draw T.F_law_draw.kp T.b_law_draw .nil pass0 (pa_cons (pv 0) (pa_cons pe_int pa_nil))) (fun _ _ => rfl))))))
      (pss_one (ps_ret (pe_callTy (call_int_strB T.nd) (by rfl) T.m_int (by decide +kernel) (pa_cons (pe_slice sl_str (pe_op op_mul50 (pe_join pe_str (pv 2)) pe_int) po_none (po_some (pv 1))) pa_nil))))))), ?_⟩
  -- size
  refine ⟨size_le (by show 4 ≤ 100000; decide), fun o ho => ?_⟩
  have no := hS.new1 ho
  have A1 : Adv a d 0 H (upd H o (.lst [.int 21, .int 61, .int 400, .int 2000])) := Adv.of (same_new ho)
  have e1 : hid a d (upd H o (.lst [.int 21, .int 61, .int 400, .int 2000])) o = some (.lst (([21, 61, 400, 2000] : List Int).map V.int)) := by
    rw [hid_oth no.1 no.2, upd_same]
    rfl
  have S1 := A1.src _ hS
  generalize upd H o (.lst [.int 21, .int 61, .int 400, .int 2000]) = H1 at *
  refine ⟨_, rfl, a, d, _, 4, rfl, S1, by omega, by decide, by decide, fun H2 r2 A2 l2 u2 => ?_⟩
  obtain ⟨m, hm, _, hat⟩ := at_int (ns := [21, 61, 400, 2000]) l2 u2
  have hmb : 21 ≤ m ∧ m ≤ 2000 := by simp at hm; omega
  refine ⟨o, _, r2, .int m, rfl, rfl, sql (hid_get (A2.same _ _ e1)).1, hat, ?_⟩
  have S2 := A2.src _ S1
  -- the first digit
  refine ⟨_, rfl, a, d, _, 9, rfl, S2, by omega, by decide, by decide, fun H3 r3 A3 l3 u3 => ?_⟩
  obtain ⟨c0, hc0, b0⟩ := at_nat (xs := (Str.ofString "123456789").cps.toList) (lo := 49) (hi := 57) (by decide +kernel) l3 (show r3 < ((9 : Nat) : Int) from u3)
  have S3 := A3.src _ S2
  refine ⟨_, _, c0, rfl, rfl, size_le (by show 9 ≤ 100000; decide), hc0, size_le (by show 1 ≤ 100000; decide), fun l hl => ?_⟩
  have nl := S3.new1 hl
  have A4 : Adv a d 0 H3 (upd H3 l (.lst [.str ⟨#[c0]⟩])) := Adv.of (same_new hl)
  have e4 : hid a d (upd H3 l (.lst [.str ⟨#[c0]⟩])) l = some (.lst [.str ⟨#[c0]⟩]) := by rw [hid_oth nl.1 nl.2, upd_same]
  have S4 := A4.src _ S3
  generalize upd H3 l (.lst [.str ⟨#[c0]⟩]) = H4 at *
  -- 39 more
  refine ⟨_, rfl, _, rfl, by decide, by decide, fun D hD => ?_⟩
  have nD := S4.new1 hD
  refine lc_range (lo := 0) (n := _) (fun i H' => ∃ cs : List Nat, hid a d H' D = some (.lst (cs.map fun c => V.str ⟨#[c]⟩)) ∧ cs.length = i ∧ (∀ c ∈ cs, 48 ≤ c ∧ c ≤ 57) ∧ Adv a d i H4 H')
    ⟨[], by rw [hid_oth nD.1 nD.2, upd_same]; rfl, rfl, (fun _ z => nomatch z), (Adv.of (same_new hD)).mono (by omega)⟩ (fun i H5 hi h => ?_) (fun H5 h => ?_)
  · obtain ⟨cs, hk, hkl, hkb, A5⟩ := h
    have hi' : i < 39 := hi
    have S5 := A5.src _ S4
    refine ⟨rfl, _, rfl, a, d, _, 10, rfl, S5, by omega, by decide, by decide, fun H6 r6 A6 l6 u6 => ?_⟩
    obtain ⟨c, hc, b⟩ := at_nat (xs := (Str.ofString "0123456789").cps.toList) (lo := 48) (hi := 57) (by decide +kernel) l6 (show r6 < ((10 : Nat) : Int) from u6)
    have hk6 := A6.same _ _ hk
    refine ⟨_, _, c, rfl, rfl, size_le (by show 10 ≤ 100000; decide), hc, _, (hid_get hk6).1, size_lt (by rw [List.length_map]; omega), cs ++ [c], ?_, by rw [List.length_append, hkl]; rfl, ?_, ?_⟩
    · rw [hid_oth nD.1 nD.2, upd_same, List.map_append]
      rfl
    · intro y hy
      rcases List.mem_append.mp hy with z | z
      · exact hkb y z
      · rw [List.mem_singleton.mp z]
        exact b
    · exact ((A5.trans A6 (Int.le_refl _)).mut S4 hD).mono (by omega)
  obtain ⟨cs, hk, hkl, hkb, A5⟩ := h
  have hk39 : cs.length = 39 := hkl
  have A5 := A5.mono (e := 39) (by show (((39 : Nat) : Nat) : Int) ≤ 39; decide)
  have e5 := A5.same _ _ e4
  have S5 := A5.src _ S4
  refine ⟨l, D, _, _, rfl, rfl, (hid_get e5).1, (hid_get hk).1, size_le (by rw [List.length_map]; show 1 + cs.length ≤ 100000; omega), fun f hf => ?_⟩
  have A6 : Adv a d 0 H5 (upd H5 f (.lst ([.str ⟨#[c0]⟩] ++ cs.map fun c => V.str ⟨#[c]⟩))) := Adv.of (same_new hf)
  have e6 : upd H5 f (.lst ([.str ⟨#[c0]⟩] ++ cs.map fun c => V.str ⟨#[c]⟩)) f = some (.lst (((c0 :: cs).map fun c => (⟨#[c]⟩ : Str)).map V.str)) := by
    rw [upd_same, List.map_map]
    rfl
  generalize upd H5 f (.lst ([.str ⟨#[c0]⟩] ++ cs.map fun c => V.str ⟨#[c]⟩)) = H6 at *
  have ly : ∀ y ∈ (c0 :: cs).map fun c => (⟨#[c]⟩ : Str), y.length ≤ 1 := fun y hy => by
    obtain ⟨c, _, rfl⟩ := List.mem_map.mp hy
    exact Nat.le_refl 1
  have sl := sum_len ly
  have l40 : ((c0 :: cs).map fun c => (⟨#[c]⟩ : Str)).length = 40 := by rw [List.length_map, List.length_cons, hk39]
  have ej : TL.tl (Txt.join (Str.ofString "") ((c0 :: cs).map fun c => (⟨#[c]⟩ : Str))) = c0 :: cs := by
    have e := TL.tl_join (Str.ofString "") ((c0 :: cs).map fun c => (⟨#[c]⟩ : Str))
    rw [List.map_map] at e
    rw [TL.join_eq]
    refine e.trans ?_
    exact join_ones (c0 :: cs)
  rw [l40] at sl
  refine ⟨⟨_, rfl⟩, _, rfl, Str.ofString "", f, _, rfl, rfl, .inl (sql e6), by rw [l40]; show _ + 40 * 0 ≤ _; omega, ?_⟩
  generalize Txt.join (Str.ofString "") ((c0 :: cs).map fun c => (⟨#[c]⟩ : Str)) = x at *
  have lx : x.length = 40 := by rw [TL.len_tl, ej, List.length_cons, hk39]
  refine ⟨_, rfl, rfl, by omega, by omega, fun z hz => ?_⟩
  rw [ej] at hz
  have lz : z.length = 2000 := by
    rw [TL.len_tl, hz, rep_lenN]
    show 50 * (cs.length + 1) = 2000
    omega
  obtain ⟨m', rfl⟩ : ∃ m' : Nat, m = (m' : Int) := ⟨m.toNat, by omega⟩
  refine ⟨_, rfl, _, rfl, z, rfl, size_leT (by omega), ?_⟩
  have et : TL.tl (cutS z none (some (m' : Int))) = c0 :: ((cs ++ (List.replicate 49 (c0 :: cs)).flatten).take (m' - 1)) := by
    rw [cut_first, hz]
    obtain ⟨k, rfl⟩ : ∃ k, m' = k + 1 := ⟨m' - 1, by omega⟩
    rfl
  obtain ⟨v, hv, v1, vl⟩ := long_int et b0 (fun y hy => by
    have hy := List.mem_of_mem_take hy
    rcases List.mem_append.mp hy with z | z
    · exact hkb y z
    · obtain ⟨r, hr, hy⟩ := List.mem_flatten.mp z
      rw [List.eq_of_mem_replicate hr] at hy
      rcases List.mem_cons.mp hy with rfl | hy
      · omega
      · exact hkb y hy) (by rw [List.length_take]; omega)
  refine ⟨_, _, rfl, hv, size_leT (Nat.le_trans (cutS_length _ _ _) (by omega)), ?_⟩
  exact q H6 _ ((((((A1.trans A2 (Int.le_refl _)).trans A3 (Int.le_refl _)).trans A4 (Int.le_refl _)).trans A5 (Int.le_refl _)).trans A6 (Int.le_refl _)).mono (by decide)) (by omega) (by rw [Int.toNat_natCast]; exact vl)

end
end Rn
namespace Rn
open PySem PySem.Spec PyProof.Rows L2
section
variable {P : Program} {w : World} {K : PySem.W.Frag} {mg : Str → Option Value} {base : Heap}
theorem nice_txl {L : Lay} (h : L.nice) : Txl L := by
  obtain ⟨h0, h1⟩ := h
  refine ⟨h0, ?_⟩
  cases L with
  | pol ns => exact ⟨Nat.le_trans h1.1 (by decide), fun x hx => by have := h1.2 x hx; omega⟩
  | con w n => exact ⟨Int.lt_trans h1.1 (by decide), h1.2⟩
theorem nice_txb {L : Lay} (h : L.nice) : Txb L := by
  have t := nice_txl h
  refine ⟨t.1, Nat.le_trans (showL_len t) (by decide), ?_⟩
  cases L with
  | pol ns => exact ⟨Nat.le_trans t.2.1 (by decide), fun x hx => Nat.le_trans (num_len (by have := pol_nn t.1 x hx; have := t.2.2 x hx; omega)) (by decide)⟩
  | con w n =>
    obtain ⟨a, b⟩ := con_nn t.1
    obtain ⟨c, e⟩ := t.2
    exact ⟨Nat.le_trans (num_len (by omega)) (by decide), Nat.le_trans (num_len (by omega)) (by decide)⟩
/-- a nesting whose text is read here -/
def BigAt (G : Hp) (c : Addr) : Prop := ∃ (us : List V) (Ls : List Lay), G c = some (.lst us) ∧ Lays G us Ls ∧ Ls.length ≤ 1000 ∧ ∀ L ∈ Ls, Txb L
theorem BigAt.same {G G' : Hp} {c : Addr} (h : BigAt G c) (s : Same G G') : BigAt G' c := by
  obtain ⟨us, Ls, h1, h2, h3⟩ := h
  exact ⟨us, Ls, s _ _ h1, h2.same s, h3⟩
theorem lays_cons0 {G : Hp} {v : V} {us : List V} {L : Lay} {Ls : List Lay} (hv : LayAt G v L) (h : Lays G us Ls) : Lays G (v :: us) (L :: Ls) := by
  have l1 : Lays G [v] [L] := ⟨rfl, fun i u M x y => by
    cases i with
    | zero => cases x; cases y; exact hv
    | succ i => cases x⟩
  exact l1.app h
theorem unhidW {a d : Addr} {H : Hp} : Same (hid a d H) H := fun b o e => (hid_get e).1
theorem ne_hidW {a d f x : Addr} {H : Hp} {o : HO} (e : hid a d H f = some o) (h : H x = none) : x ≠ f := fun z => by
  rw [z, (hid_get e).1] at h
  cases h
theorem dig_len {x : Int} (h : 0 ≤ x ∧ x < 10) : (TL.numL x.toNat).length ≤ 1 := TL.numL_len (by decide) (by omega)
theorem digits_txb {ks : List Int} (l : ks.length ≤ 1990) (h : ∀ y ∈ ks, 0 ≤ y ∧ y < 10) : Txb (.pol ks) := by
  refine ⟨?_, ?_, Nat.le_trans l (by decide), fun x hx => Nat.le_trans (dig_len (h x hx)) (by decide)⟩
  · rw [Lay.ok_pol, List.all_eq_true]
    exact fun x hx => decide_eq_true (h x hx).1
  · cases ks with
    | nil => show 1 ≤ 10000; decide
    | cons k ks =>
      have := joinL_len (S := [44]) (B := 1) (ps := numsL (k :: ks)) fun p hp => by
        obtain ⟨x, hx, rfl⟩ := List.mem_map.mp hp
        exact dig_len (h x hx)
      have e : (numsL (k :: ks)).length = (k :: ks).length := List.length_map ..
      rw [e] at this
      have e2 : (k :: ks).length * (1 + [44].length) ≤ 1990 * 2 := Nat.mul_le_mul l (by decide)
      show (TL.joinL [44] (numsL (k :: ks))).length ≤ 10000
      omega
theorem four_txb {m1 m2 : Int} (a1 : 1 ≤ m1) (b1 : (TL.numL m1.toNat).length ≤ 2000) (a2 : 1 ≤ m2) (b2 : (TL.numL m2.toNat).length ≤ 2000) : ∀ L ∈ [Lay.pol [m1], .con 0 m2, .con 1 2, .pol []], Txb L := fun L hL => by
  simp only [List.mem_cons, List.not_mem_nil, or_false] at hL
  rcases hL with rfl | rfl | rfl | rfl
  · refine ⟨by rw [Lay.ok_pol]; simp; omega, Nat.le_trans b1 (by decide), (by show 1 ≤ 2000; decide), fun x hx => by rw [List.mem_singleton.mp hx]; exact b1⟩
  · refine ⟨by rw [Lay.ok_con, decide_eq_true (by decide), decide_eq_true (by omega)]; rfl, ?_, by decide +kernel, b2⟩
    show (TL.numL 0 ++ 120 :: TL.numL m2.toNat).length ≤ 10000
    rw [List.length_append, List.length_cons, show (TL.numL 0).length = 1 by decide +kernel]
    omega
  · exact ⟨by decide, by decide +kernel, by decide +kernel, by decide +kernel⟩
  · exact ⟨by decide, by decide, by decide, fun _ z => nomatch z⟩
theorem showN_big {Ls : List Lay} (h : ∀ L ∈ Ls, Txb L) (l : Ls.length ≤ 1000) : (showN Ls).length ≤ 16777216 := by
  cases Ls with
  | nil => show 4 ≤ 16777216; decide
  | cons L Ls =>
    have := joinL_len (S := [32, 47, 32]) (B := 10000) (ps := (L :: Ls).map showL) fun p hp => by
      obtain ⟨M, hM, rfl⟩ := List.mem_map.mp hp
      exact (h M hM).2.1
    rw [List.length_map] at this
    have e : (L :: Ls).length * (10000 + [32, 47, 32].length) ≤ 1000 * 10003 := Nat.mul_le_mul l (by decide)
    show (TL.joinL [32, 47, 32] ((L :: Ls).map showL)).length ≤ 16777216
    omega
def sp_law (K : PySem.W.Frag) : Sp := fun vs H Q _ => ∃ (a : Addr) (ns : List Int), vs = [.ref a] ∧ SqL K H a (ns.map V.int) ∧ ns.length ≤ 63 ∧ ∀ H', Q (.bl true) H'
abbrev lvl_law : Nat := 6
theorem ok_law (T : Txt K mg) : FnG P w K mg base lvl_law T.f_law T.d_law ["script"] (sp_law K) := by
  have G_law_source := (ok_law_source (P := P) (w := w) (base := base) T).mono (by decide : 1 ≤ 5)
  have G_law_draw := (ok_law_draw (P := P) (w := w) (base := base) T).mono (by decide : 1 ≤ 5)
  have G_law_any_nesting := (ok_law_any_nesting (P := P) (w := w) (base := base) T).mono (by decide : 3 ≤ 5)
  have G_law_long := (ok_law_long (P := P) (w := w) (base := base) T).mono (by decide : 2 ≤ 5)
  have G_law_shown := (ok_law_shown (P := P) (w := w) (base := base) T).mono (by decide : 1 ≤ 5)
  have G_law_same := (ok_law_same (P := P) (w := w) (base := base) T).mono (by decide : 4 ≤ 5)
  have G_read_nesting := ok_read_nesting (P := P) (w := w) (base := base) T
  refine okG T.F_law sc_law (fun cdv A outer s H vs Q E gu hr h => ?_)
  obtain ⟨sa, ns, rfl, hS, hl, q⟩ := h
  refine ⟨_, (pss_cons (ps_set (i := 1) sc_law.nd rfl (Or.inr rfl) (pe_call G_law_source hr (by rfl) T.g_law_source T.F_law_source.kp T.b_law_source .nil pass0 (pa_cons (pv 0) pa_nil)))
      (pss_cons (ps_for PassesOwn.never rfl (pi_range1 (by rfl) T.m_range (pa_cons (pe_op op_add pe_int (pe_callB (call_min2 rfl) (by rfl) T.m_min (by decide +kernel) (pa_cons pe_int (pa_cons (pe_callB call_len_seq (by rfl) T.m_len PySem.boot_len (pa_cons (pv 0) pa_nil)) pa_nil)))) pa_nil)) (pg_name (i := 2) sc_law.nd rfl (Or.inl rfl))
      (pss_one (ps_for PassesOwn.never rfl (pi_range1 (by rfl) T.m_range (pa_cons pe_int pa_nil)) (pg_name (i := 3) sc_law.nd rfl (Or.inl rfl))
      (pss_cons (ps_set (i := 4) sc_law.nd rfl (Or.inl rfl) (pe_call G_law_any_nesting hr (by rfl) T.g_law_any_nesting T.F_law_any_nesting.kp T.b_law_any_nesting .nil pass0 (pa_cons (pv 1) pa_nil)))
      (Evl.pss_cut (ps_if (pt_cmpR op_eq (pe_call G_law_draw hr (by rfl) T.g_law_draw T.F_law_draw.kp T.b_law_draw .nil pass0 (pa_cons (pv 1) (pa_cons pe_int pa_nil))) pe_int (nomark _))
      (pss_one (ps_set (i := 4) sc_law.nd rfl (Or.inl rfl) (pe_slice sl_list (pe_lst (pa_cons (pe_lst (pa_cons (pe_call G_law_long hr (by rfl) T.g_law_long T.F_law_long.kp T.b_law_long .nil pass0 (pa_cons (pv 1) pa_nil)) pa_nil)) (pa_cons (pe_tup (pa_cons pe_int (pa_cons (pe_call G_law_long hr (by rfl) T.g_law_long T.F_law_long.kp T.b_law_long .nil pass0 (pa_cons (pv 1) pa_nil)) pa_nil))) (pa_cons (pe_tup (pa_cons pe_int (pa_cons pe_int pa_nil))) (pa_cons (pe_lst pa_nil) pa_nil))))) (po_some (pe_call G_law_draw hr (by rfl) T.g_law_draw T.F_law_draw.kp T.b_law_draw .nil pass0 (pa_cons (pv 1) (pa_cons pe_int pa_nil)))) po_none)))
      pss_nil)
      (Evl.pss_cut (ps_if (pt_cmpR op_eq (pe_call G_law_draw hr (by rfl) T.g_law_draw T.F_law_draw.kp T.b_law_draw .nil pass0 (pa_cons (pv 1) (pa_cons pe_int pa_nil))) pe_int (nomark _))
      (pss_one (ps_set (i := 4) sc_law.nd rfl (Or.inl rfl) (pe_lst (pa_cons (pe_lc (own := [("one", 9)]) (g := gName 9) (tt := tYes) rfl sc_law.nd (pi_range1 (by rfl) T.m_range (pa_cons (pe_call G_law_draw hr (by rfl) T.g_law_draw T.F_law_draw.kp T.b_law_draw .nil pass0 (pa_cons (pv 1) (pa_cons pe_int pa_nil))) pa_nil)) (blkOk_by (N := ["script", "source", "k", "turn", "layers", "words", "time", "found", "part", "one"]) (sc := defScope s_law) (by decide +kernel)) (fun _ _ _ _ _ => (pg_name (i := 9) sc_law.nd rfl (Or.inl rfl))) (fun _ _ _ _ _ => pts_nil) (fun _ _ _ _ _ => (pe_call G_law_draw hr (by rfl) T.g_law_draw T.F_law_draw.kp T.b_law_draw .nil pass0 (pa_cons (pv 1) (pa_cons pe_int pa_nil))))) pa_nil))))
      (pss_one (ps_if (pt_cmpR op_eq (pe_call G_law_draw hr (by rfl) T.g_law_draw T.F_law_draw.kp T.b_law_draw .nil pass0 (pa_cons (pv 1) (pa_cons pe_int pa_nil))) pe_int (nomark _))
      (pss_one (ps_setLc (i := 4) (own := [("one", 9)]) (g := gName 9) (tt := tYes) rfl sc_law.nd rfl rfl (sw_true rfl rfl rfl (by decide +kernel)) (pi_range1 (by rfl) T.m_range (pa_cons (pe_call G_law_draw hr (by rfl) T.g_law_draw T.F_law_draw.kp T.b_law_draw .nil pass0 (pa_cons (pv 1) (pa_cons pe_int pa_nil))) pa_nil)) (blkOk_by (N := ["script", "source", "k", "turn", "layers", "words", "time", "found", "part", "one"]) (sc := defScope s_law) (by decide +kernel)) (fun _ _ _ _ _ => (pg_name (i := 9) sc_law.nd rfl (Or.inl rfl))) (fun _ _ _ _ _ => pts_nil) (fun _ _ _ _ _ => (pe_ix (ix_listK (K := K) rfl) (pe_lst (pa_cons (pe_lst pa_nil) (pa_cons (pe_lst (pa_cons (pe_call G_law_draw hr (by rfl) T.g_law_draw T.F_law_draw.kp T.b_law_draw .nil pass0 (pa_cons (pv 1) (pa_cons pe_int pa_nil))) pa_nil)) pa_nil))) (pe_call G_law_draw hr (by rfl) T.g_law_draw T.F_law_draw.kp T.b_law_draw .nil pass0 (pa_cons (pv 1) (pa_cons pe_int pa_nil))) (fun _ _ => rfl)))))
      pss_nil)))
      (Evl.pss_cut (ps_if (pt_cmpR op_gt (pe_callB call_len_str (by rfl) T.m_len PySem.boot_len (pa_cons (pe_callG G_law_shown gu hr (by rfl) T.g_law_shown T.F_law_shown.kp T.b_law_shown pass0 (pa_cons (pv 4) pa_nil)) pa_nil)) pe_int (nomark _))
      (pss_one (ps_set (i := 4) sc_law.nd rfl (Or.inl rfl) (pe_slice sl_list (pv 4) (po_some pe_int) po_none)))
      pss_nil)
      (pss_cons (ps_set (i := 5) sc_law.nd rfl (Or.inl rfl) (pe_callG G_law_shown gu hr (by rfl) T.g_law_shown T.F_law_shown.kp T.b_law_shown pass0 (pa_cons (pv 4) pa_nil)))
      (pss_one (ps_for PassesOwn.never rfl (pi_range1 (by rfl) T.m_range (pa_cons pe_int pa_nil)) (pg_name (i := 6) sc_law.nd rfl (Or.inl rfl))
      (pss_cons (ps_set (i := 7) sc_law.nd rfl (Or.inl rfl) (pe_call G_read_nesting hr (by rfl) T.g_read_nesting T.F_read_nesting.kp T.b_read_nesting .nil pass0 (pa_cons (pv 5) pa_nil)))
      (pss_cons (ps_if (pt_not (pt_val (pe_call G_law_same hr (by rfl) T.g_law_same T.F_law_same.kp T.b_law_same .nil pass0 (pa_cons (pe_lst (pa_cons (pv 7) (pa_cons (pe_callKw G_read_nesting hr (by rfl) T.g_read_nesting T.F_read_nesting.kp T.kb_read_nesting pass0 (pk_cons (pv 5) pk_nil)) pa_nil))) (pa_cons (pe_lst (pa_cons (pv 4) (pa_cons (pv 4) pa_nil))) pa_nil)))))
      (pss_one (ps_ret pe_bl))
      pss_nil)
      (pss_cons (ps_for PassesOwn.never rfl (pi_list (pe_lc (own := [("part", 8)]) (g := gName 8)  rfl sc_law.nd (pi_list (pv 7)) (blkOk_by (N := ["script", "source", "k", "turn", "layers", "words", "time", "found", "part", "one"]) (sc := defScope s_law) (by decide +kernel)) (fun _ _ _ _ _ => (pg_name (i := 8) sc_law.nd rfl (Or.inl rfl))) (fun _ _ _ _ _ => (pts_one (pt_val (pe_callB (call_isiK1 (K := K) rfl) (by rfl) T.m_isinstance (by decide +kernel) (pa_cons (pv 8) (pa_cons (pe_bltn (v := .ty "list") (by rfl) T.m_list (by decide +kernel) rfl) pa_nil)))))) (fun _ _ _ _ _ => (pv 8)))) (pg_name (i := 8) sc_law.nd rfl (Or.inl rfl))
      (pss_one (ps_expr (pe_bm PySem.F.plainAttrs_list PySem.F.slot_list_append PySem.F.type_list_append mt_append (pv 8) (pa_cons pe_int pa_nil)))))
      (pss_one (ps_expr (pe_bm PySem.F.plainAttrs_list PySem.F.slot_list_append PySem.F.type_list_append mt_append (pv 7) (pa_cons (pe_tup (pa_cons pe_int (pa_cons pe_int pa_nil))) pa_nil)))))))))))))))))
      (pss_one (ps_ret (pe_and (pe_cmpR (op_eqD hr.units) (pe_call G_read_nesting hr (by rfl) T.g_read_nesting T.F_read_nesting.kp T.b_read_nesting .nil pass0 (pa_cons pe_str pa_nil)) (pe_lst pa_nil) (nomark _)) (pe_and (pe_cmpR (op_eqD hr.units) (pe_call G_read_nesting hr (by rfl) T.g_read_nesting T.F_read_nesting.kp T.b_read_nesting .nil pass0 (pa_cons pe_str pa_nil)) (pe_lst (pa_cons (pe_lst pa_nil) pa_nil)) (nomark _)) (pe_one (pe_cmpR (op_eqD hr.units) (pe_call G_read_nesting hr (by rfl) T.g_read_nesting T.F_read_nesting.kp T.b_read_nesting .nil pass0 (pa_cons pe_str pa_nil)) (pe_lst (pa_cons (pe_tup (pa_cons pe_int (pa_cons pe_int pa_nil))) (pa_cons (pe_lst pa_nil) pa_nil))) (nomark _))))))))), ?_⟩
  refine ⟨_, rfl, sa, ns, rfl, hS, hl, fun H1 a d s1 _ _ S1 => ?_⟩
  have hlen : (ns.map V.int).length ≤ 63 := by rw [List.length_map]; exact hl
  have hmin : ∀ z : Int, (if z < 8 then z else 8) ≤ 8 := fun z => by split <;> omega
  have hmin0 : 0 ≤ (if (((ns.map V.int).length : Nat) : Int) < 8 then (((ns.map V.int).length : Nat) : Int) else 8) := by split <;> omega
  have hm1 := hmin (((ns.map V.int).length : Nat) : Int)
  refine ⟨_, rfl, sa, _, rfl, .inl (s1.seq hS), _, _, rfl, _, _, rfl, rfl, _, rfl, by omega, by omega, ?_⟩
  refine for_range (lo := 0) (n := (3 + (if (((ns.map V.int).length : Nat) : Int) < 8 then (((ns.map V.int).length : Nat) : Int) else 8)).toNat)
    (fun i σ H' => (∃ y2 y3 y4 y5 y6 y7 y8 y9, σ = [some (.ref sa), some (.ref a), y2, y3, y4, y5, y6, y7, y8, y9]) ∧ Adv a d (100000 * i) H1 H') ⟨⟨_, _, _, _, _, _, _, _, rfl⟩, Adv.refl⟩ (fun i σ H2 hi h => ?_) (fun σ H2 h => ?_)
  · obtain ⟨⟨y2, y3, y4, y5, y6, y7, y8, y9, rfl⟩, A2⟩ := h
    have hi' : (i : Int) < 11 := by omega
    refine ⟨_, rfl, by decide, by decide, ?_⟩
    refine for_range (lo := 0) (n := 6) (fun j σ H' => (∃ y2 y3 y4 y5 y6 y7 y8 y9, σ = [some (.ref sa), some (.ref a), y2, y3, y4, y5, y6, y7, y8, y9]) ∧ Adv a d (100000 * i + 10000 * j) H1 H')
      ⟨⟨_, _, _, _, _, _, _, _, rfl⟩, A2.mono (by omega)⟩ (fun j σ H3 hj h => ?_) (fun σ H3 h => ?_)
    · obtain ⟨⟨y2, y3, y4, y5, y6, y7, y8, y9, rfl⟩, A3⟩ := h
      have hj' : j < 6 := hj
      have S3 := A3.src 0 S1
      refine ⟨_, rfl, a, d, _, rfl, S3, by omega, fun H4 p us Ls A4 f4 nv l4 nice => ?_⟩
      have S4 := A4.src _ S3
      -- the first choice
      refine ⟨fun σ' H' => (∃ c y2 y3 y5 y6 y7 y8 y9, σ' = [some (.ref sa), some (.ref a), y2, y3, some (.ref c), y5, y6, y7, y8, y9] ∧ BigAt (hid a d H') c) ∧ Adv a d 1200 H3 H', ?_, fun σ H5 h => ?_⟩
      · skip
        refine ⟨_, rfl, a, d, _, 3, rfl, S4, by omega, by decide, by decide, fun H5 r5 A5 l5 u5 => ⟨rfl, _, rfl, ite2 (fun _ => ?_) (fun _ => ⟨⟨p, _, _, _, _, _, _, _, rfl, us, Ls, (nv.same A5.same).1, (nv.same A5.same).lays, by omega, fun L hL => nice_txb (nice L hL)⟩, (A4.trans A5 (Int.le_refl _)).mono (by omega)⟩)⟩⟩
        have S5 := A5.src _ S4
        refine ⟨_, rfl, a, d, _, rfl, S5, by omega, fun H501 m1 A_H501 l_m1 u_m1 => ?_⟩
        have C_H501 := A5.trans A_H501 (Int.le_refl _)
        have S_H501 := A_H501.src _ S5
        refine ⟨size_le (by show 1 ≤ 100000; decide), fun q1 h1 => ?_⟩
        have nn_q1 := S_H501.new1 h1
        have A_H502 : Adv a d 0 H501 (upd H501 q1 (.lst [.int m1])) := Adv.of (same_new h1)
        have e_q1 : hid a d (upd H501 q1 (.lst [.int m1])) q1 = some (.lst [.int m1]) := by rw [hid_oth nn_q1.1 nn_q1.2, upd_same]
        generalize upd H501 q1 (.lst [.int m1]) = H502 at *
        have C_H502 := C_H501.trans A_H502 (Int.le_refl _)
        have S_H502 := A_H502.src _ S_H501
        refine ⟨_, rfl, a, d, _, rfl, S_H502, by omega, fun H503 m2 A_H503 l_m2 u_m2 => ?_⟩
        have C_H503 := C_H502.trans A_H503 (Int.le_refl _)
        have S_H503 := A_H503.src _ S_H502
        have e_q1 := A_H503.same _ _ e_q1
        refine ⟨size_le (by show 2 ≤ 100000; decide), fun t2 h2 => ?_⟩
        have nn_t2 := S_H503.new1 h2
        have A_H504 : Adv a d 0 H503 (upd H503 t2 (.tup [.int 0, .int m2])) := Adv.of (same_new h2)
        have e_t2 : hid a d (upd H503 t2 (.tup [.int 0, .int m2])) t2 = some (.tup [.int 0, .int m2]) := by rw [hid_oth nn_t2.1 nn_t2.2, upd_same]
        generalize upd H503 t2 (.tup [.int 0, .int m2]) = H504 at *
        have C_H504 := C_H503.trans A_H504 (Int.le_refl _)
        have S_H504 := A_H504.src _ S_H503
        have e_q1 := A_H504.same _ _ e_q1
        refine ⟨size_le (by show 2 ≤ 100000; decide), fun t3 h3 => ?_⟩
        have nn_t3 := S_H504.new1 h3
        have A_H505 : Adv a d 0 H504 (upd H504 t3 (.tup [.int 1, .int 2])) := Adv.of (same_new h3)
        have e_t3 : hid a d (upd H504 t3 (.tup [.int 1, .int 2])) t3 = some (.tup [.int 1, .int 2]) := by rw [hid_oth nn_t3.1 nn_t3.2, upd_same]
        generalize upd H504 t3 (.tup [.int 1, .int 2]) = H505 at *
        have C_H505 := C_H504.trans A_H505 (Int.le_refl _)
        have S_H505 := A_H505.src _ S_H504
        have e_q1 := A_H505.same _ _ e_q1
        have e_t2 := A_H505.same _ _ e_t2
        refine ⟨Nat.zero_le _, fun q4 h4 => ?_⟩
        have nn_q4 := S_H505.new1 h4
        have A_H506 : Adv a d 0 H505 (upd H505 q4 (.lst [])) := Adv.of (same_new h4)
        have e_q4 : hid a d (upd H505 q4 (.lst [])) q4 = some (.lst []) := by rw [hid_oth nn_q4.1 nn_q4.2, upd_same]
        generalize upd H505 q4 (.lst []) = H506 at *
        have C_H506 := C_H505.trans A_H506 (Int.le_refl _)
        have S_H506 := A_H506.src _ S_H505
        have e_q1 := A_H506.same _ _ e_q1
        have e_t2 := A_H506.same _ _ e_t2
        have e_t3 := A_H506.same _ _ e_t3
        refine ⟨size_le (by show 4 ≤ 100000; decide), fun ll h5 => ?_⟩
        have nn_ll := S_H506.new1 h5
        have A_H507 : Adv a d 0 H506 (upd H506 ll (.lst [.ref q1, .ref t2, .ref t3, .ref q4])) := Adv.of (same_new h5)
        have e_ll : hid a d (upd H506 ll (.lst [.ref q1, .ref t2, .ref t3, .ref q4])) ll = some (.lst [.ref q1, .ref t2, .ref t3, .ref q4]) := by rw [hid_oth nn_ll.1 nn_ll.2, upd_same]
        generalize upd H506 ll (.lst [.ref q1, .ref t2, .ref t3, .ref q4]) = H507 at *
        have C_H507 := C_H506.trans A_H507 (Int.le_refl _)
        have S_H507 := A_H507.src _ S_H506
        have e_q1 := A_H507.same _ _ e_q1
        have e_t2 := A_H507.same _ _ e_t2
        have e_t3 := A_H507.same _ _ e_t3
        have e_q4 := A_H507.same _ _ e_q4
        refine ⟨_, rfl, a, d, _, 3, rfl, S_H507, by omega, by decide, by decide, fun H508 rs A_H508 l_rs u_rs => ?_⟩
        have C_H508 := C_H507.trans A_H508 (Int.le_refl _)
        have S_H508 := A_H508.src _ S_H507
        have e_q1 := A_H508.same _ _ e_q1
        have e_t2 := A_H508.same _ _ e_t2
        have e_t3 := A_H508.same _ _ e_t3
        have e_q4 := A_H508.same _ _ e_q4
        have e_ll := A_H508.same _ _ e_ll
        obtain ⟨k, rfl⟩ : ∃ k : Nat, rs = (k : Int) := ⟨rs.toNat, by omega⟩
        refine ⟨_, rfl, ll, _, rfl, sql (hid_get e_ll).1, fun sl hsl => ?_⟩
        rw [show cutV [V.ref q1, V.ref t2, V.ref t3, V.ref q4] (some (k : Int)) none = [V.ref q1, V.ref t2, V.ref t3, V.ref q4].drop k from cut_to _ k]
        have nn_sl := S_H508.new1 hsl
        have A_H509 : Adv a d 0 H508 (upd H508 sl (.lst ([V.ref q1, V.ref t2, V.ref t3, V.ref q4].drop k))) := Adv.of (same_new hsl)
        have e_sl : hid a d (upd H508 sl (.lst ([V.ref q1, V.ref t2, V.ref t3, V.ref q4].drop k))) sl = some (.lst ([V.ref q1, V.ref t2, V.ref t3, V.ref q4].drop k)) := by rw [hid_oth nn_sl.1 nn_sl.2, upd_same]
        generalize upd H508 sl (.lst ([V.ref q1, V.ref t2, V.ref t3, V.ref q4].drop k)) = H509 at *
        have C_H509 := C_H508.trans A_H509 (Int.le_refl _)
        have S_H509 := A_H509.src _ S_H508
        have e_q1 := A_H509.same _ _ e_q1
        have e_t2 := A_H509.same _ _ e_t2
        have e_t3 := A_H509.same _ _ e_t3
        have e_q4 := A_H509.same _ _ e_q4
        have e_ll := A_H509.same _ _ e_ll
        have la : Lays (hid a d H509) [V.ref q1, V.ref t2, V.ref t3, V.ref q4] [.pol [m1], .con 0 m2, .con 1 2, .pol []] := lays_cons0 ⟨q1, rfl, e_q1⟩ (lays_cons0 ⟨t2, rfl, e_t2⟩ (lays_cons0 ⟨t3, rfl, e_t3⟩ (lays_cons0 ⟨q4, rfl, e_q4⟩ (Lays.none _))))
        refine ⟨⟨sl, _, _, _, _, _, _, _, rfl, _, _, e_sl, la.drop k, ?_, fun L hL => four_txb l_m1 u_m1 l_m2 u_m2 L (List.mem_of_mem_drop hL)⟩, ((A4.trans C_H509 (Int.le_refl _)).mono (by omega))⟩
        rw [List.length_drop]; show 4 - k ≤ 1000; omega
      obtain ⟨⟨c5, y2, y3, y5, y6, y7, y8, y9, rfl, B5⟩, A5⟩ := h
      refine ⟨fun σ' H' => (∃ c y2 y3 y5 y6 y7 y8 y9, σ' = [some (.ref sa), some (.ref a), y2, y3, some (.ref c), y5, y6, y7, y8, y9] ∧ BigAt (hid a d H') c) ∧ Adv a d 5000 H3 H', ?_, fun σ H6 h => ?_⟩
      · skip
        have S5 := A5.src _ S3
        refine ⟨_, rfl, a, d, _, 8, rfl, S5, by omega, by decide, by decide, fun H50 r50 A50 l50 u50 => ?_⟩
        have S50 := A50.src _ S5
        have B50 := B5.same A50.same
        refine ⟨rfl, _, rfl, ite2 (fun _ => ?_) (fun _ => ?_)⟩
        · refine ⟨_, rfl, a, d, _, 1991, rfl, S50, by omega, by decide, by decide, fun H601 rn A_H601 l_rn u_rn => ⟨_, rfl, by omega, by omega, fun D hD => ?_⟩⟩
          have C_H601 := A50.trans A_H601 (Int.le_refl _)
          have S_H601 := A_H601.src _ S50
          have nD := S_H601.new1 hD
          refine lc_range (lo := 0) (n := _) (fun x H' => ∃ ks : List Int, hid a d H' D = some (.lst (ks.map V.int)) ∧ ks.length = x ∧ (∀ y ∈ ks, 0 ≤ y ∧ y < 10) ∧ Adv a d x H601 H') ⟨[], by rw [hid_oth nD.1 nD.2, upd_same]; rfl, rfl, (fun _ z => nomatch z), (Adv.of (same_new hD)).mono (by omega)⟩ (fun x H70 hx h => ?_) (fun H80 h => ?_)
          · obtain ⟨ks, hk, hkl, hkb, A70⟩ := h
            have S70 := A70.src _ S_H601
            refine ⟨rfl, _, rfl, a, d, _, 10, rfl, S70, by omega, by decide, by decide, fun H71 y A71 ly uy => ?_⟩
            have hk71 := A71.same _ _ hk
            refine ⟨_, (hid_get hk71).1, size_lt (by rw [List.length_map]; omega), ks ++ [y], by rw [hid_oth nD.1 nD.2, upd_same, List.map_append]; rfl, by rw [List.length_append, hkl]; rfl, fun z hz => ?_, ((A70.trans A71 (Int.le_refl _)).mut S_H601 hD).mono (by omega)⟩
            rcases List.mem_append.mp hz with z1 | z1
            · exact hkb z z1
            · rw [List.mem_singleton.mp z1]; exact ⟨ly, uy⟩
          obtain ⟨ks, hk, hkl, hkb, A_H80⟩ := h
          have hk2 : ks.length ≤ 1990 := by omega
          have C_H80 := C_H601.trans A_H80 (Int.le_refl _)
          have S_H80 := A_H80.src _ S_H601
          refine ⟨size_le (by show 1 ≤ 100000; decide), fun ll hll => ?_⟩
          have nn_ll := S_H80.new1 hll
          have A_H602 : Adv a d 0 H80 (upd H80 ll (.lst [.ref D])) := Adv.of (same_new hll)
          have e_ll : hid a d (upd H80 ll (.lst [.ref D])) ll = some (.lst [.ref D]) := by rw [hid_oth nn_ll.1 nn_ll.2, upd_same]
          generalize upd H80 ll (.lst [.ref D]) = H602 at *
          have C_H602 := C_H80.trans A_H602 (Int.le_refl _)
          have S_H602 := A_H602.src _ S_H80
          have hk := A_H602.same _ _ hk
          exact ⟨⟨ll, _, _, _, _, _, _, _, rfl, _, [.pol ks], e_ll, lays_cons0 ⟨D, rfl, hk⟩ (Lays.none _), by show 1 ≤ 1000; decide, fun L hL => by rw [List.mem_singleton.mp hL]; exact digits_txb hk2 hkb⟩, (A5.trans C_H602 (Int.le_refl _)).mono (by omega)⟩
        · refine ⟨_, rfl, a, d, _, 8, rfl, S50, by omega, by decide, by decide, fun H51 r51 A51 l51 u51 => ?_⟩
          have S51 := A51.src _ S50
          have B51 := B50.same A51.same
          refine ⟨rfl, _, rfl, ite2 (fun _ => ?_) (fun _ => ⟨⟨c5, _, _, _, _, _, _, _, rfl, B51⟩, ((A5.trans A50 (Int.le_refl _)).trans A51 (Int.le_refl _)).mono (by omega)⟩)⟩
          refine ⟨_, rfl, a, d, _, 1000, rfl, S51, by omega, by decide, by decide, fun H701 rn A_H701 l_rn u_rn => ⟨_, rfl, by omega, by omega, fun D hD => ?_⟩⟩
          have C_H701 := A51.trans A_H701 (Int.le_refl _)
          have S_H701 := A_H701.src _ S51
          have nD := S_H701.new1 hD
          refine lc_range (lo := 0) (n := _) (fun x H' => ∃ (us : List V) (Ls : List Lay), hid a d H' D = some (.lst us) ∧ Lays (hid a d H') us Ls ∧ Ls.length = x ∧ (∀ y, V.ref y ∈ us → y ≠ D) ∧ (∀ L ∈ Ls, Txb L) ∧ Adv a d (2 * x) H701 H') ⟨[], [], by rw [hid_oth nD.1 nD.2, upd_same], Lays.none _, rfl, (fun _ z => nomatch z), (fun _ z => nomatch z), (Adv.of (same_new hD)).mono (by omega)⟩ (fun x H70 hx h => ?_) (fun H80 h => ?_)
          · obtain ⟨us, Ls, eD, la, lL, nD', tx, A70⟩ := h
            have S70 := A70.src _ S_H701
            have lus : us.length = x := la.1.trans lL
            refine ⟨rfl, Nat.zero_le _, fun q0 h0 => ?_⟩
            have nq0 : q0 ≠ D := ne_hidW eD h0
            have nn_q0 := S70.new1 h0
            have A_H751 : Adv a d 0 H70 (upd H70 q0 (.lst [])) := Adv.of (same_new h0)
            have e_q0 : hid a d (upd H70 q0 (.lst [])) q0 = some (.lst []) := by rw [hid_oth nn_q0.1 nn_q0.2, upd_same]
            generalize upd H70 q0 (.lst []) = H751 at *
            have C_H751 := A70.trans A_H751 (Int.le_refl _)
            have S_H751 := A_H751.src _ S70
            have eD := A_H751.same _ _ eD
            have la := la.same A_H751.same
            refine ⟨_, rfl, a, d, _, 10, rfl, S_H751, by omega, by first | omega | decide, by first | omega | decide, fun H752 dg A_H752 l_dg u_dg => ?_⟩
            have C_H752 := C_H751.trans A_H752 (Int.le_refl _)
            have S_H752 := A_H752.src _ S_H751
            have eD := A_H752.same _ _ eD
            have e_q0 := A_H752.same _ _ e_q0
            have la := la.same A_H752.same
            refine ⟨size_le (by show 1 ≤ 100000; decide), fun q1 h1 => ?_⟩
            have nq1 : q1 ≠ D := ne_hidW eD h1
            have nn_q1 := S_H752.new1 h1
            have A_H753 : Adv a d 0 H752 (upd H752 q1 (.lst [.int dg])) := Adv.of (same_new h1)
            have e_q1 : hid a d (upd H752 q1 (.lst [.int dg])) q1 = some (.lst [.int dg]) := by rw [hid_oth nn_q1.1 nn_q1.2, upd_same]
            generalize upd H752 q1 (.lst [.int dg]) = H753 at *
            have C_H753 := C_H752.trans A_H753 (Int.le_refl _)
            have S_H753 := A_H753.src _ S_H752
            have eD := A_H753.same _ _ eD
            have e_q0 := A_H753.same _ _ e_q0
            have la := la.same A_H753.same
            refine ⟨size_le (by show 2 ≤ 100000; decide), fun q2 h2 => ?_⟩
            have nn_q2 := S_H753.new1 h2
            have A_H754 : Adv a d 0 H753 (upd H753 q2 (.lst [.ref q0, .ref q1])) := Adv.of (same_new h2)
            have e_q2 : hid a d (upd H753 q2 (.lst [.ref q0, .ref q1])) q2 = some (.lst [.ref q0, .ref q1]) := by rw [hid_oth nn_q2.1 nn_q2.2, upd_same]
            generalize upd H753 q2 (.lst [.ref q0, .ref q1]) = H754 at *
            have C_H754 := C_H753.trans A_H754 (Int.le_refl _)
            have S_H754 := A_H754.src _ S_H753
            have eD := A_H754.same _ _ eD
            have e_q0 := A_H754.same _ _ e_q0
            have e_q1 := A_H754.same _ _ e_q1
            have la := la.same A_H754.same
            refine ⟨_, rfl, a, d, _, 2, rfl, S_H754, by omega, by first | omega | decide, by first | omega | decide, fun H755 pk A_H755 l_pk u_pk => ?_⟩
            have C_H755 := C_H754.trans A_H755 (Int.le_refl _)
            have S_H755 := A_H755.src _ S_H754
            have eD := A_H755.same _ _ eD
            have e_q0 := A_H755.same _ _ e_q0
            have e_q1 := A_H755.same _ _ e_q1
            have e_q2 := A_H755.same _ _ e_q2
            have la := la.same A_H755.same
            have pick : ∃ (v : Addr) (L : Lay), atI [V.ref q0, V.ref q1] pk = some (.ref v) ∧ LayAt (hid a d H755) (.ref v) L ∧ Txb L ∧ v ≠ D := by
              obtain rfl | rfl : pk = 0 ∨ pk = 1 := by omega
              · exact ⟨q0, .pol [], rfl, ⟨q0, rfl, e_q0⟩, ⟨by decide, by decide, by decide, fun _ z => nomatch z⟩, nq0⟩
              · exact ⟨q1, .pol [dg], rfl, ⟨q1, rfl, e_q1⟩, digits_txb (ks := [dg]) (by show 1 ≤ 1990; decide) (fun y hy => by rw [List.mem_singleton.mp hy]; exact ⟨l_dg, u_dg⟩), nq1⟩
            obtain ⟨v, L, hat, lv, tv, nv⟩ := pick
            refine ⟨q2, _, pk, .ref v, rfl, rfl, sql (hid_get e_q2).1, hat, ?_⟩
            have nb : ∀ y, V.ref y ∈ us ++ [V.ref v] → y ≠ D := fun y hy => (List.mem_append.mp hy).elim (nD' y) fun z => by
              have z := List.mem_singleton.mp z
              injection z with z
              rw [z]; exact nv
            refine ⟨_, (hid_get eD).1, size_lt (by omega), us ++ [.ref v], Ls ++ [L], by rw [hid_oth nD.1 nD.2, upd_same], (la.app (lays_cons0 lv (Lays.none _))).carry (fun y o hy ho => by rw [hid_oth nD.1 nD.2, upd_ne (nb y hy)]; exact ho), by rw [List.length_append, lL]; rfl, nb, fun M hM => ?_, (C_H755.mut S_H701 hD).mono (by omega)⟩
            rcases List.mem_append.mp hM with z | z
            · exact tx M z
            · rw [List.mem_singleton.mp z]; exact tv
          obtain ⟨us, Ls, eD, la, lL, nD', tx, A80⟩ := h
          exact ⟨⟨D, _, _, _, _, _, _, _, rfl, us, Ls, eD, la, by omega, tx⟩, (((A5.trans A50 (Int.le_refl _)).trans (C_H701.trans A80 (Int.le_refl _)) (Int.le_refl _)).mono (by omega))⟩
      obtain ⟨⟨c6, y2, y3, y5, y6, y7, y8, y9, rfl, B6⟩, A6⟩ := h
      refine ⟨fun σ' H' => (∃ c y2 y3 y5 y6 y7 y8 y9, σ' = [some (.ref sa), some (.ref a), y2, y3, some (.ref c), y5, y6, y7, y8, y9] ∧ BigAt (hid a d H') c) ∧ Adv a d 5000 H3 H', ?_, fun σ H7 h => ?_⟩
      · skip
        obtain ⟨us, Ls, e6, la, l1000, tx⟩ := B6
        refine ⟨_, rfl, c6, Ls, rfl, (la.nest e6).same unhidW, tx, l1000, fun H60 t s60 et => ?_⟩
        have lt : t.length ≤ 16777216 := by rw [TL.len_tl, et]; exact showN_big tx l1000
        refine ⟨t, rfl, size_leT lt, _, _, rfl, rfl, _, rfl, ite2 (fun _ => ?_) (fun _ => ⟨⟨c6, _, _, _, _, _, _, _, rfl, us, Ls, hid_same s60 _ _ e6, la.same (hid_same s60), l1000, tx⟩, (A6.trans (Adv.of s60) (Int.le_refl _)).mono (by omega)⟩)⟩
        refine ⟨_, rfl, _, rfl, c6, us, rfl, sql (s60 _ _ (hid_get e6).1), fun sl hsl => ?_⟩
        rw [show cutV us (some 1) none = us.drop 1 from cut_to us 1]
        have S60 := (A6.src _ S3).same s60
        have ns := S60.new1 hsl
        have s61 := s60.trans (same_new (o := .lst (us.drop 1)) hsl)
        exact ⟨⟨sl, _, _, _, _, _, _, _, rfl, us.drop 1, Ls.drop 1, by rw [hid_oth ns.1 ns.2, upd_same], (la.drop 1).same (hid_same s61), by rw [List.length_drop]; omega, fun L hL => tx L (List.mem_of_mem_drop hL)⟩, (A6.trans (Adv.of s61) (Int.le_refl _)).mono (by omega)⟩
      obtain ⟨⟨c7, y2, y3, y5, y6, y7, y8, y9, rfl, B7⟩, A7⟩ := h
      have S7 := A7.src _ S3
      obtain ⟨us, Ls, e7, la, l1000, tx⟩ := B7
      refine ⟨_, rfl, c7, Ls, rfl, (la.nest e7).same unhidW, tx, l1000, fun H60 t s60 et => ?_⟩
      have nest0 : NestAt H60 c7 Ls := ((la.nest e7).same unhidW).same s60
      refine ⟨_, rfl, by decide, by decide, ?_⟩
      refine for_range (lo := 0) (n := 2) (fun k σ H' => (∃ y2 y3 y6 y7 y8 y9, σ = [some (.ref sa), some (.ref a), y2, y3, some (.ref c7), some (.str t), y6, y7, y8, y9]) ∧ Same H60 H') ⟨⟨_, _, _, _, _, _, rfl⟩, Same.refl _⟩ (fun k σ H8 hk h => ?_) (fun σ H8 h => ?_)
      · obtain ⟨⟨y2, y3, y6, y7, y8, y9, rfl⟩, s8⟩ := h
        refine ⟨_, rfl, t, Ls, rfl, et, tx, l1000, fun H9 f us9 s9 f9 nv => ?_⟩
        refine ⟨_, rfl, _, rfl, t, Ls, rfl, et, tx, l1000, fun H10 g us10 s10 f10 nv10 => ⟨size_le (by show 2 ≤ 100000; decide), fun o1 h1 => ?_⟩⟩
        have x1 := same_new (o := .lst [.ref f, .ref g]) h1
        have e1 := upd_same (H := H10) (a := o1) (o := .lst [.ref f, .ref g])
        generalize upd H10 o1 (.lst [.ref f, .ref g]) = H11 at *
        refine ⟨_, rfl, _, rfl, size_le (by show 2 ≤ 100000; decide), fun o2 h2 => ?_⟩
        have x2 := same_new (o := .lst [.ref c7, .ref c7]) h2
        have e2 := upd_same (H := H11) (a := o2) (o := .lst [.ref c7, .ref c7])
        generalize upd H11 o2 (.lst [.ref c7, .ref c7]) = H12 at *
        have s12 : Same H8 H12 := ((s9.trans s10).trans x1).trans x2
        have nc := nest0.same (s8.trans s12)
        refine ⟨o1, o2, f, g, c7, c7, Ls, rfl, x2 _ _ e1, e2, nv.nest.same ((s10.trans x1).trans x2), nv10.nest.same (x1.trans x2), nc, nc, by omega, (fun ns hm => Nat.le_trans (tx _ hm).2.2.1 (by decide)), fun H13 s13 => ⟨true, rfl, iteF ?_⟩⟩
        have s913 := ((s10.trans x1).trans x2).trans s13
        have ef : H13 f = some (.lst us9) := s913 _ _ nv.1
        have la9 := nv.lays.same s913
        have fresh := nv.2.2.2
        have lu9 : us9.length = Ls.length := nv.2.1
        refine ⟨_, rfl, f, rfl, ⟨us9, sql ef⟩, fun D hD => lc_list (xs := us9) (fun i H' => Same H13 H' ∧ ∃ ps, H' D = some (.lst ps) ∧ ps.length ≤ i ∧ ∀ v ∈ ps, v ∈ us9 ∧ ∃ x ys, v = V.ref x ∧ H13 x = some (.lst ys) ∧ ys.length ≤ 2000) ⟨same_new hD, [], upd_same, Nat.le_refl _, fun v hv => by cases hv⟩ (fun i H' _ h => sql (h.1 _ _ ef)) (fun i x H' hx h => ?_) (fun H' h => ?_)⟩
        · obtain ⟨sm, ps, eD, lp, hps⟩ := h
          have hi : i < us9.length := (List.getElem?_eq_some_iff.mp hx).1
          have hL := List.getElem?_eq_getElem (show i < Ls.length by omega)
          have lay := la9.2 i x _ hx hL
          have txi := tx _ (List.getElem_mem (show i < Ls.length by omega))
          generalize Ls[i] = L at *
          cases L with
          | con w n =>
            obtain ⟨q, rfl, hq⟩ := lay
            exact ⟨rfl, _, rfl, _, _, _, _, false, rfl, .ty "list", .base (.tup (sm _ _ hq)), kit_ty (by decide +kernel), false, rfl, iteF ⟨sm, ps, eD, by omega, hps⟩⟩
          | pol ns =>
            obtain ⟨q, rfl, hq⟩ := lay
            refine ⟨rfl, _, rfl, _, _, _, _, true, rfl, .ty "list", .base (.lst (sm _ _ hq)), kit_ty (by decide +kernel), true, rfl, iteT ⟨_, rfl, ps, eD, size_lt (by omega), same_keep sm hD, ps ++ [.ref q], upd_same, by rw [List.length_append]; exact Nat.succ_le_succ lp, fun v hv => ?_⟩⟩
            rcases List.mem_append.mp hv with z | z
            · exact hps v z
            · rw [List.mem_singleton.mp z]
              exact ⟨List.mem_of_getElem? hx, q, _, rfl, hq, by rw [List.length_map]; exact txi.2.2.1⟩
        obtain ⟨sm, ps, eD, lp, hps⟩ := h
        have s813 : Same H8 H' := ((s9.trans s913).trans sm)
        refine ⟨D, rfl, ⟨ps, sql eD⟩, for_list (xs := ps) (fun j σ H2 => (∃ y2 y3 y6 y8 y9, σ = [some (.ref sa), some (.ref a), y2, y3, some (.ref c7), some (.str t), y6, some (.ref f), y8, y9]) ∧ Same H8 H2 ∧ H2 D = some (.lst ps) ∧ H2 f = some (.lst us9) ∧ ∀ v ∈ ps, ∃ x ys, v = V.ref x ∧ H2 x = some (.lst ys) ∧ ys.length ≤ 2000 + j)
          ⟨⟨_, _, _, _, _, rfl⟩, s813, eD, sm _ _ ef, fun v hv => by obtain ⟨_, x, ys, e, hx, l⟩ := hps v hv; exact ⟨x, ys, e, sm _ _ hx, by omega⟩⟩ (fun j σ H2 _ h => sql h.2.2.1) (fun j v σ H2 hv h => ?_) (fun σ H2 h => ?_)⟩
        · obtain ⟨⟨y2, y3, y6, y8, y9, rfl⟩, sm2, eD2, ef2, hp2⟩ := h
          have mv := List.mem_of_getElem? hv
          have lj : j < ps.length := (List.getElem?_eq_some_iff.mp hv).1
          obtain ⟨x, ys, rfl, ex, ly⟩ := hp2 v mv
          obtain ⟨mu, x', _, ee, hx13, _⟩ := hps _ mv
          cases ee
          obtain ⟨nf, n8⟩ := fresh x mu
          have nD : D ≠ x := fun z => by rw [z, hx13] at hD; cases hD
          refine ⟨_, rfl, .inl ⟨rfl, _, sql ex⟩, x, ys, _, rfl, rfl, ex, size_lt (by omega), ⟨_, _, _, _, _, rfl⟩, same_keep sm2 n8, by rw [upd_ne nD]; exact eD2, by rw [upd_ne (Ne.symm nf)]; exact ef2, fun u hu => ?_⟩
          obtain ⟨y, zs, rfl, ey, lz⟩ := hp2 u hu
          by_cases e : y = x
          · subst e
            exact ⟨y, _, rfl, upd_same, by rw [List.length_append]; show ys.length + 1 ≤ _; omega⟩
          · exact ⟨y, zs, rfl, by rw [upd_ne e]; exact ey, by omega⟩
        · obtain ⟨⟨y2, y3, y6, y8, y9, rfl⟩, sm2, eD2, ef2, hp2⟩ := h
          refine ⟨_, rfl, .inl ⟨rfl, _, sql ef2⟩, size_le (by show 2 ≤ 100000; decide), fun tt ht => ?_⟩
          have xt := same_new (o := .tup [.int 1, .int 2]) ht
          exact ⟨f, us9, _, rfl, rfl, xt _ _ ef2, size_lt (by omega), ⟨_, _, _, _, _, _, rfl⟩, s8.trans (same_keep (sm2.trans xt) f9)⟩
      · obtain ⟨⟨y2, y3, y6, y7, y8, y9, rfl⟩, s8⟩ := h
        exact ⟨⟨_, _, _, _, _, _, _, _, rfl⟩, ((A3.trans A7 (Int.le_refl _)).trans (Adv.of (s60.trans s8)) (Int.le_refl _)).mono (by omega)⟩
    · obtain ⟨⟨y2, y3, y4, y5, y6, y7, y8, y9, rfl⟩, A3⟩ := h
      exact ⟨⟨_, _, _, _, _, _, _, _, rfl⟩, A3.mono (by omega)⟩
  · clear h
    refine ⟨Str.ofString "none", [], rfl, rfl, (fun _ z => nomatch z), by decide, fun H3 r3 u3 s3 f3 n3 => ⟨Nat.zero_le _, fun z1 g1 => ?_⟩⟩
    refine ⟨_, _, dp_nest (n3.nest.same (same_new g1)), dp_nest (Ls := []) (nest_of upd_same .nil), shaped_lays _, shaped_lays _, true, congrArg V.bl (by rw [eqv_lays]; exact laysB_iff.mpr rfl), iteT ?_⟩
    refine ⟨Str.ofString "-", [.pol []], rfl, rfl, (fun L hL => by rw [List.mem_singleton.mp hL]; exact ⟨by decide, by decide, by decide, fun _ z => nomatch z⟩), by decide, fun H4 r4 u4 s4 f4 n4 => ⟨Nat.zero_le _, fun z2 g2 => ?_⟩⟩
    have x2 := same_new (o := .lst []) g2
    have e2 := upd_same (H := H4) (a := z2) (o := .lst [])
    generalize upd H4 z2 (.lst []) = H5 at *
    refine ⟨size_le (by show 1 ≤ 100000; decide), fun z3 g3 => ?_⟩
    have x3 := same_new (o := .lst [.ref z2]) g3
    refine ⟨_, _, dp_nest (n4.nest.same (x2.trans x3)), dp_nest (Ls := [.pol []]) (nest_of upd_same (.cons ⟨z2, rfl, x3 _ _ e2⟩ .nil)), shaped_lays _, shaped_lays _, true, congrArg V.bl (by rw [eqv_lays]; exact laysB_iff.mpr rfl), iteT ?_⟩
    generalize upd H5 z3 (.lst [.ref z2]) = H6 at *
    refine ⟨Str.ofString "0x1 / -", [.con 0 1, .pol []], rfl, by decide +kernel, (fun L hL => ?_), by decide, fun H7 r7 u7 s7 f7 n7 => ⟨size_le (by show 2 ≤ 100000; decide), fun z4 g4 => ?_⟩⟩
    · simp only [List.mem_cons, List.not_mem_nil, or_false] at hL
      rcases hL with rfl | rfl
      · exact ⟨by decide, by decide +kernel, by decide +kernel, by decide +kernel⟩
      · exact ⟨by decide, by decide, by decide, fun _ z => nomatch z⟩
    have x4 := same_new (o := .tup [.int 0, .int 1]) g4
    have e4 := upd_same (H := H7) (a := z4) (o := .tup [.int 0, .int 1])
    generalize upd H7 z4 (.tup [.int 0, .int 1]) = H8 at *
    refine ⟨Nat.zero_le _, fun z5 g5 => ?_⟩
    have x5 := same_new (o := .lst []) g5
    have e5 := upd_same (H := H8) (a := z5) (o := .lst [])
    generalize upd H8 z5 (.lst []) = H9 at *
    refine ⟨size_le (by show 2 ≤ 100000; decide), fun z6 g6 => ?_⟩
    have x6 := same_new (o := .lst [.ref z4, .ref z5]) g6
    refine ⟨_, _, dp_nest (n7.nest.same ((x4.trans x5).trans x6)), dp_nest (Ls := [.con 0 1, .pol []]) (nest_of upd_same (.cons ⟨z4, rfl, x6 _ _ (x5 _ _ e4)⟩ (.cons ⟨z5, rfl, x6 _ _ e5⟩ .nil))), shaped_lays _, shaped_lays _, ?_⟩
    rw [eqv_lays, laysB_iff.mpr rfl]
    exact q _

end
end Rn
namespace Rn
open PySem PySem.Spec PyProof.Rows L2
theorem all_mk {l : PySem.W.OpenLaw} {w : World} {K : PySem.W.Frag} {h : Heap} {mg : Str → Option Value} {fa f0 f1 f2 f3 f4 f5 f6 f7 f8 f9 f10 f11 f12 f13 f14 : Addr} (X : K.In h) (G : h.Ns mainGlobals mg) (hfa : mg "law" = some (.ref fa))
    {od0 an0 od1 an1 od2 an2 od3 an3 od4 an4 od5 an5 od6 an6 od7 an7 od8 an8 od9 an9 od10 an10 od11 an11 od12 an12 od13 an13 od14 an14 : Option Addr} {sl0 sl1 sl2 sl3 sl4 sl5 sl6 sl7 sl8 sl9 sl10 sl11 sl12 sl13 sl14 : Array (Option Value)} {oc0 kV0 dc0 pm0 cd0 ct0 oc1 kV1 dc1 pm1 cd1 ct1 oc2 kV2 dc2 pm2 cd2 ct2 oc3 kV3 dc3 pm3 cd3 ct3 oc4 kV4 dc4 pm4 cd4 ct4 oc5 kV5 dc5 pm5 cd5 ct5 oc6 kV6 dc6 pm6 cd6 ct6 oc7 kV7 dc7 pm7 cd7 ct7 oc8 kV8 dc8 pm8 cd8 ct8 oc9 kV9 dc9 pm9 cd9 ct9 oc10 kV10 dc10 pm10 cd10 ct10 oc11 kV11 dc11 pm11 cd11 ct11 oc12 kV12 dc12 pm12 cd12 ct12 oc13 kV13 dc13 pm13 cd13 ct13 oc14 kV14 dc14 pm14 cd14 ct14 : Value}
    (a0 : PySem.W.nsIn K mainGlobals "first_negative" = some (some (.ref f0))) (l0 : K.lookup f0 = some ⟨oc0, od0, .func (PySem.W.fnOf "first_negative" "first_negative" (defArgs s_first_negative) (defBody s_first_negative) (defScope s_first_negative) .none kV0 dc0 pm0 an0 cd0 ct0), sl0⟩) (c0 : PySem.W.codeIn K cd0 "first_negative" = true) (k0 : PySem.W.keepIn K (.ref f0) = true)
    (a1 : PySem.W.nsIn K mainGlobals "is_valid_layer" = some (some (.ref f1))) (l1 : K.lookup f1 = some ⟨oc1, od1, .func (PySem.W.fnOf "is_valid_layer" "is_valid_layer" (defArgs s_is_valid_layer) (defBody s_is_valid_layer) (defScope s_is_valid_layer) .none kV1 dc1 pm1 an1 cd1 ct1), sl1⟩) (c1 : PySem.W.codeIn K cd1 "is_valid_layer" = true) (k1 : PySem.W.keepIn K (.ref f1) = true)
    (a2 : PySem.W.nsIn K mainGlobals "is_number" = some (some (.ref f2))) (l2 : K.lookup f2 = some ⟨oc2, od2, .func (PySem.W.fnOf "is_number" "is_number" (defArgs s_is_number) (defBody s_is_number) (defScope s_is_number) .none kV2 dc2 pm2 an2 cd2 ct2), sl2⟩) (c2 : PySem.W.codeIn K cd2 "is_number" = true) (k2 : PySem.W.keepIn K (.ref f2) = true)
    (a3 : PySem.W.nsIn K mainGlobals "read_numbers" = some (some (.ref f3))) (l3 : K.lookup f3 = some ⟨oc3, od3, .func (PySem.W.fnOf "read_numbers" "read_numbers" (defArgs s_read_numbers) (defBody s_read_numbers) (defScope s_read_numbers) .none kV3 dc3 pm3 an3 cd3 ct3), sl3⟩) (c3 : PySem.W.codeIn K cd3 "read_numbers" = true) (k3 : PySem.W.keepIn K (.ref f3) = true)
    (a4 : PySem.W.nsIn K mainGlobals "read_constant" = some (some (.ref f4))) (l4 : K.lookup f4 = some ⟨oc4, od4, .func (PySem.W.fnOf "read_constant" "read_constant" (defArgs s_read_constant) (defBody s_read_constant) (defScope s_read_constant) .none kV4 dc4 pm4 an4 cd4 ct4), sl4⟩) (c4 : PySem.W.codeIn K cd4 "read_constant" = true) (k4 : PySem.W.keepIn K (.ref f4) = true)
    (a5 : PySem.W.nsIn K mainGlobals "read_layer" = some (some (.ref f5))) (l5 : K.lookup f5 = some ⟨oc5, od5, .func (PySem.W.fnOf "read_layer" "read_layer" (defArgs s_read_layer) (defBody s_read_layer) (defScope s_read_layer) .none kV5 dc5 pm5 an5 cd5 ct5), sl5⟩) (c5 : PySem.W.codeIn K cd5 "read_layer" = true) (k5 : PySem.W.keepIn K (.ref f5) = true)
    (a6 : PySem.W.nsIn K mainGlobals "read_nesting" = some (some (.ref f6))) (l6 : K.lookup f6 = some ⟨oc6, od6, .func (PySem.W.fnOf "read_nesting" "read_nesting" (defArgs s_read_nesting) (defBody s_read_nesting) (defScope s_read_nesting) .none kV6 dc6 pm6 an6 cd6 ct6), sl6⟩) (c6 : PySem.W.codeIn K cd6 "read_nesting" = true) (k6 : PySem.W.keepIn K (.ref f6) = true)
    (a7 : PySem.W.nsIn K mainGlobals "_law_source" = some (some (.ref f7))) (l7 : K.lookup f7 = some ⟨oc7, od7, .func (PySem.W.fnOf "_law_source" "_law_source" (defArgs s_law_source) (defBody s_law_source) (defScope s_law_source) .none kV7 dc7 pm7 an7 cd7 ct7), sl7⟩) (c7 : PySem.W.codeIn K cd7 "_law_source" = true) (k7 : PySem.W.keepIn K (.ref f7) = true)
    (a8 : PySem.W.nsIn K mainGlobals "_law_draw" = some (some (.ref f8))) (l8 : K.lookup f8 = some ⟨oc8, od8, .func (PySem.W.fnOf "_law_draw" "_law_draw" (defArgs s_law_draw) (defBody s_law_draw) (defScope s_law_draw) .none kV8 dc8 pm8 an8 cd8 ct8), sl8⟩) (c8 : PySem.W.codeIn K cd8 "_law_draw" = true) (k8 : PySem.W.keepIn K (.ref f8) = true)
    (a9 : PySem.W.nsIn K mainGlobals "_law_same" = some (some (.ref f9))) (l9 : K.lookup f9 = some ⟨oc9, od9, .func (PySem.W.fnOf "_law_same" "_law_same" (defArgs s_law_same) (defBody s_law_same) (defScope s_law_same) .none kV9 dc9 pm9 an9 cd9 ct9), sl9⟩) (c9 : PySem.W.codeIn K cd9 "_law_same" = true) (k9 : PySem.W.keepIn K (.ref f9) = true)
    (a10 : PySem.W.nsIn K mainGlobals "_law_number_drawn" = some (some (.ref f10))) (l10 : K.lookup f10 = some ⟨oc10, od10, .func (PySem.W.fnOf "_law_number_drawn" "_law_number_drawn" (defArgs s_law_number_drawn) (defBody s_law_number_drawn) (defScope s_law_number_drawn) .none kV10 dc10 pm10 an10 cd10 ct10), sl10⟩) (c10 : PySem.W.codeIn K cd10 "_law_number_drawn" = true) (k10 : PySem.W.keepIn K (.ref f10) = true)
    (a11 : PySem.W.nsIn K mainGlobals "_law_any_nesting" = some (some (.ref f11))) (l11 : K.lookup f11 = some ⟨oc11, od11, .func (PySem.W.fnOf "_law_any_nesting" "_law_any_nesting" (defArgs s_law_any_nesting) (defBody s_law_any_nesting) (defScope s_law_any_nesting) .none kV11 dc11 pm11 an11 cd11 ct11), sl11⟩) (c11 : PySem.W.codeIn K cd11 "_law_any_nesting" = true) (k11 : PySem.W.keepIn K (.ref f11) = true)
    (a12 : PySem.W.nsIn K mainGlobals "_law_shown" = some (some (.ref f12))) (l12 : K.lookup f12 = some ⟨oc12, od12, .func (PySem.W.fnOf "_law_shown" "_law_shown" (defArgs s_law_shown) (defBody s_law_shown) (defScope s_law_shown) .none kV12 dc12 pm12 an12 cd12 ct12), sl12⟩) (c12 : PySem.W.codeIn K cd12 "_law_shown" = true) (k12 : PySem.W.keepIn K (.ref f12) = true)
    (a13 : PySem.W.nsIn K mainGlobals "_law_long" = some (some (.ref f13))) (l13 : K.lookup f13 = some ⟨oc13, od13, .func (PySem.W.fnOf "_law_long" "_law_long" (defArgs s_law_long) (defBody s_law_long) (defScope s_law_long) .none kV13 dc13 pm13 an13 cd13 ct13), sl13⟩) (c13 : PySem.W.codeIn K cd13 "_law_long" = true) (k13 : PySem.W.keepIn K (.ref f13) = true)
    (a14 : PySem.W.nsIn K mainGlobals "law" = some (some (.ref f14))) (l14 : K.lookup f14 = some ⟨oc14, od14, .func (PySem.W.fnOf "law" "law" (defArgs s_law) (defBody s_law) (defScope s_law) .none kV14 dc14 pm14 an14 cd14 ct14), sl14⟩) (c14 : PySem.W.codeIn K cd14 "law" = true) (k14 : PySem.W.keepIn K (.ref f14) = true)
    (z0 : PySem.W.nsIn K mainGlobals "all" = some none)
    (z1 : PySem.W.nsIn K mainGlobals "bool" = some none)
    (z2 : PySem.W.nsIn K mainGlobals "enumerate" = some none)
    (z3 : PySem.W.nsIn K mainGlobals "int" = some none)
    (z4 : PySem.W.nsIn K mainGlobals "isinstance" = some none)
    (z5 : PySem.W.nsIn K mainGlobals "len" = some none)
    (z6 : PySem.W.nsIn K mainGlobals "list" = some none)
    (z7 : PySem.W.nsIn K mainGlobals "max" = some none)
    (z8 : PySem.W.nsIn K mainGlobals "min" = some none)
    (z9 : PySem.W.nsIn K mainGlobals "range" = some none)
    (z10 : PySem.W.nsIn K mainGlobals "repr" = some none)
    (z11 : PySem.W.nsIn K mainGlobals "str" = some none)
    (z12 : PySem.W.nsIn K mainGlobals "tuple" = some none)
    {y0 : Tok} (x0 : PySem.W.nsIn K mainGlobals "MOST_DIGITS" = some (some (.int 2000 y0)))
    (nd2 : PySem.W.nsIn K PySem.cStatics "sys.int_max_str_digits" = some none)
    : ∃ fd : FuncData, (∀ (s : Shared) (v : Value), BindsTo s fd ⟨[v], []⟩ [("script", v)]) ∧ ∀ base : Heap, K.In base → base.Ns mainGlobals mg → FnG l.prog w K mg base lvl_law fa fd ["script"] (sp_law K) := by
  have e := hfa.symm.trans (PySem.W.mg_of X G a14)
  cases e
  have F0 := fun_mk (st := s_first_negative) l0 c0 k0
  have F1 := fun_mk (st := s_is_valid_layer) l1 c1 k1
  have F2 := fun_mk (st := s_is_number) l2 c2 k2
  have F3 := fun_mk (st := s_read_numbers) l3 c3 k3
  have F4 := fun_mk (st := s_read_constant) l4 c4 k4
  have F5 := fun_mk (st := s_read_layer) l5 c5 k5
  have F6 := fun_mk (st := s_read_nesting) l6 c6 k6
  have F7 := fun_mk (st := s_law_source) l7 c7 k7
  have F8 := fun_mk (st := s_law_draw) l8 c8 k8
  have F9 := fun_mk (st := s_law_same) l9 c9 k9
  have F10 := fun_mk (st := s_law_number_drawn) l10 c10 k10
  have F11 := fun_mk (st := s_law_any_nesting) l11 c11 k11
  have F12 := fun_mk (st := s_law_shown) l12 c12 k12
  have F13 := fun_mk (st := s_law_long) l13 c13 k13
  have F14 := fun_mk (st := s_law) l14 c14 k14
  have b0 := F0.binds (ps := ["waits"]) fun _ _ _ _ _ _ us hl => match us, hl with | [_], _ => rfl
  have b1 := F1.binds (ps := ["layer"]) fun _ _ _ _ _ _ us hl => match us, hl with | [_], _ => rfl
  have b2 := F2.binds (ps := ["text"]) fun _ _ _ _ _ _ us hl => match us, hl with | [_], _ => rfl
  have b3 := F3.binds (ps := ["words"]) fun _ _ _ _ _ _ us hl => match us, hl with | [_], _ => rfl
  have b4 := F4.binds (ps := ["text"]) fun _ _ _ _ _ _ us hl => match us, hl with | [_], _ => rfl
  have b5 := F5.binds (ps := ["text"]) fun _ _ _ _ _ _ us hl => match us, hl with | [_], _ => rfl
  have b6 := F6.binds (ps := ["text"]) fun _ _ _ _ _ _ us hl => match us, hl with | [_], _ => rfl
  have b7 := F7.binds (ps := ["script"]) fun _ _ _ _ _ _ us hl => match us, hl with | [_], _ => rfl
  have b8 := F8.binds (ps := ["source", "many"]) fun _ _ _ _ _ _ us hl => match us, hl with | [_, _], _ => rfl
  have b9 := F9.binds (ps := ["found", "wanted"]) fun _ _ _ _ _ _ us hl => match us, hl with | [_, _], _ => rfl
  have b10 := F10.binds (ps := ["source", "top"]) fun _ _ _ _ _ _ us hl => match us, hl with | [_, _], _ => rfl
  have b11 := F11.binds (ps := ["source"]) fun _ _ _ _ _ _ us hl => match us, hl with | [_], _ => rfl
  have b12 := F12.binds (ps := ["layers"]) fun _ _ _ _ _ _ us hl => match us, hl with | [_], _ => rfl
  have b13 := F13.binds (ps := ["source"]) fun _ _ _ _ _ _ us hl => match us, hl with | [_], _ => rfl
  have b14 := F14.binds (ps := ["script"]) fun _ _ _ _ _ _ us hl => match us, hl with | [_], _ => rfl
  have T : Txt K mg := ⟨f0, _, F0, PySem.W.mg_of X G a0, b0, f1, _, F1, PySem.W.mg_of X G a1, b1, f2, _, F2, PySem.W.mg_of X G a2, b2, f3, _, F3, PySem.W.mg_of X G a3, b3, f4, _, F4, PySem.W.mg_of X G a4, b4, f5, _, F5, PySem.W.mg_of X G a5, b5, f6, _, F6, PySem.W.mg_of X G a6, b6, f7, _, F7, PySem.W.mg_of X G a7, b7, f8, _, F8, PySem.W.mg_of X G a8, b8, f9, _, F9, PySem.W.mg_of X G a9, b9, f10, _, F10, PySem.W.mg_of X G a10, b10, f11, _, F11, PySem.W.mg_of X G a11, b11, f12, _, F12, PySem.W.mg_of X G a12, b12, f13, _, F13, PySem.W.mg_of X G a13, b13, fa, _, F14, PySem.W.mg_of X G a14, b14, kb1 fun s a => .of_eq rfl, PySem.W.mg_none_of X G z0, PySem.W.mg_none_of X G z1, PySem.W.mg_none_of X G z2, PySem.W.mg_none_of X G z3, PySem.W.mg_none_of X G z4, PySem.W.mg_none_of X G z5, PySem.W.mg_none_of X G z6, PySem.W.mg_none_of X G z7, PySem.W.mg_none_of X G z8, PySem.W.mg_none_of X G z9, PySem.W.mg_none_of X G z10, PySem.W.mg_none_of X G z11, PySem.W.mg_none_of X G z12, _, PySem.W.mg_of X G x0, nd2⟩
  exact ⟨_, fun s v => .of_eq rfl, fun base _ _ => ok_law ⟨f0, _, F0, PySem.W.mg_of X G a0, b0, f1, _, F1, PySem.W.mg_of X G a1, b1, f2, _, F2, PySem.W.mg_of X G a2, b2, f3, _, F3, PySem.W.mg_of X G a3, b3, f4, _, F4, PySem.W.mg_of X G a4, b4, f5, _, F5, PySem.W.mg_of X G a5, b5, f6, _, F6, PySem.W.mg_of X G a6, b6, f7, _, F7, PySem.W.mg_of X G a7, b7, f8, _, F8, PySem.W.mg_of X G a8, b8, f9, _, F9, PySem.W.mg_of X G a9, b9, f10, _, F10, PySem.W.mg_of X G a10, b10, f11, _, F11, PySem.W.mg_of X G a11, b11, f12, _, F12, PySem.W.mg_of X G a12, b12, f13, _, F13, PySem.W.mg_of X G a13, b13, fa, _, F14, PySem.W.mg_of X G a14, b14, kb1 fun s a => .of_eq rfl, PySem.W.mg_none_of X G z0, PySem.W.mg_none_of X G z1, PySem.W.mg_none_of X G z2, PySem.W.mg_none_of X G z3, PySem.W.mg_none_of X G z4, PySem.W.mg_none_of X G z5, PySem.W.mg_none_of X G z6, PySem.W.mg_none_of X G z7, PySem.W.mg_none_of X G z8, PySem.W.mg_none_of X G z9, PySem.W.mg_none_of X G z10, PySem.W.mg_none_of X G z11, PySem.W.mg_none_of X G z12, _, PySem.W.mg_of X G x0, nd2⟩⟩
end Rn
open PySem PySem.W PyProof.Rows
set_option maxRecDepth 100000 in
set_option maxHeartbeats 0 in
theorem PySem.Challenge.cw_retrynest_k41_nestings_read_holds : PySem.Challenge.rw_retrynest_k41_nestings_read.Holds := by
  w_on; o_law; k_head; (case hw => w_witness2)
  k_fill
  refine Rn.walk_G (l := PySem.Challenge.rw_retrynest_k41_nestings_read) (k := Rn.lvl_law) (sp := Rn.sp_law) rfl rfl ⟨rfl, by decide, by decide⟩ (fun w h Y => PySem.W.kIn_of Y) ?F (fun _ _ a ns hl hS => ⟨a, ns, rfl, hS, hl, fun _ => rfl⟩)
  case F =>
    intro w mg fa h KX G hmg
    refine' Rn.all_mk KX G hmg ?a0 ?l0 ?c0 ?k0 ?a1 ?l1 ?c1 ?k1 ?a2 ?l2 ?c2 ?k2 ?a3 ?l3 ?c3 ?k3 ?a4 ?l4 ?c4 ?k4 ?a5 ?l5 ?c5 ?k5 ?a6 ?l6 ?c6 ?k6 ?a7 ?l7 ?c7 ?k7 ?a8 ?l8 ?c8 ?k8 ?a9 ?l9 ?c9 ?k9 ?a10 ?l10 ?c10 ?k10 ?a11 ?l11 ?c11 ?k11 ?a12 ?l12 ?c12 ?k12 ?a13 ?l13 ?c13 ?k13 ?a14 ?l14 ?c14 ?k14 ?z0 ?z1 ?z2 ?z3 ?z4 ?z5 ?z6 ?z7 ?z8 ?z9 ?z10 ?z11 ?z12 ?x0 ?nd2
    (case a0 => k_is); (case l0 => k_is); (case c0 => k_is); (case k0 => k_is); (case a1 => k_is); (case l1 => k_is); (case c1 => k_is); (case k1 => k_is); (case a2 => k_is)
    (case l2 => k_is); (case c2 => k_is); (case k2 => k_is); (case a3 => k_is); (case l3 => k_is); (case c3 => k_is); (case k3 => k_is); (case a4 => k_is); (case l4 => k_is)
    (case c4 => k_is); (case k4 => k_is); (case a5 => k_is); (case l5 => k_is); (case c5 => k_is); (case k5 => k_is); (case a6 => k_is); (case l6 => k_is); (case c6 => k_is)
    (case k6 => k_is); (case a7 => k_is); (case l7 => k_is); (case c7 => k_is); (case k7 => k_is); (case a8 => k_is); (case l8 => k_is); (case c8 => k_is); (case k8 => k_is)
    (case a9 => k_is); (case l9 => k_is); (case c9 => k_is); (case k9 => k_is); (case a10 => k_is); (case l10 => k_is); (case c10 => k_is); (case k10 => k_is); (case a11 => k_is)
    (case l11 => k_is); (case c11 => k_is); (case k11 => k_is); (case a12 => k_is); (case l12 => k_is); (case c12 => k_is); (case k12 => k_is); (case a13 => k_is)
    (case l13 => k_is); (case c13 => k_is); (case k13 => k_is); (case a14 => k_is); (case l14 => k_is); (case c14 => k_is); (case k14 => k_is); (case z0 => k_is)
    (case z1 => k_is); (case z2 => k_is); (case z3 => k_is); (case z4 => k_is); (case z5 => k_is); (case z6 => k_is); (case z7 => k_is); (case z8 => k_is); (case z9 => k_is)
    (case z10 => k_is); (case z11 => k_is); (case z12 => k_is); (case x0 => k_is); (case nd2 => k_is)
