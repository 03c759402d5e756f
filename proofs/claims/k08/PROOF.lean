import PyProof.Rows.All
import Wide.All
import OpenK.AllK
import Wide.FinOn
import KE.KStateDown
import Lean
import HandS.Base
import HandS.Call
import HandS.List
import HandS.Comp
import HandS.Ends
import HandS.More
import HandS.Dict
import HandS.Iter
import HandS.Walk
import HandS.Text
import HandS.Words
import HandS.WordsList
import HandS.WordsExc
import HandS.Defaults
import HandS.Wide
import HandS.IsInst
import HandS.Style
import HandS.Evl
import HandS.Steps
import HandS.RaiseMore
import HandS.Head0
import HandS.Head1
import HandS.Head2
import HandS.HeadEnd
import HandS.HeadHook1
import HandS.HeadHook2
import PySem.Challenge.RW_toldback_k08_fractions_within
set_option Elab.async false
set_option linter.all false
set_option maxRecDepth 100000
set_option maxHeartbeats 4000000
namespace TB
open PySem PySem.Spec PyProof.Rows L2 Evl
/-! ### heaps but for one list -/
theorem same_new {H : Hp} {p : Addr} {o : HO} (h : H p = none) : Ex H (upd H p o) := Ex.new h
/-- everything but what stands at B is as it was -/
def ExB (B : Addr) (H H' : Hp) : Prop := ∀ a o, a ≠ B → H a = some o → H' a = some o
theorem ExB.refl (B : Addr) (H : Hp) : ExB B H H := fun _ _ _ h => h
theorem ExB.trans {B : Addr} {H H1 H2 : Hp} (a : ExB B H H1) (b : ExB B H1 H2) : ExB B H H2 := fun x o n h => b x o n (a x o n h)
theorem ExB.of {B : Addr} {H H' : Hp} (e : Ex H H') : ExB B H H' := fun a o _ h => e a o h
theorem ExB.upd {B : Addr} {H : Hp} {o : HO} : ExB B H (upd H B o) := fun a u n h => by
  rw [upd_ne n]
  exact h
/-! ### data, as it stands in a heap -/
mutual
inductive Dt (H : Hp) : V → PyData → Prop
  | non : Dt H .non .none
  | bl (b : Bool) : Dt H (.bl b) (.bool b)
  | int (i : Int) : Dt H (.int i) (.int i)
  | str (x : Str) : Dt H (.str x) (.str x)
  | lst {a : Addr} {xs : List V} {ds : List PyData} : H a = some (.lst xs) → DtAll H xs ds → Dt H (.ref a) (.list ds)
  | tup {a : Addr} {xs : List V} {ds : List PyData} : H a = some (.tup xs) → DtAll H xs ds → Dt H (.ref a) (.tuple ds)
  | dic {a : Addr} {ns : List (Int × Int)} : H a = some (.dK (ns.map fun p => ((Sum.inl p.1 : Key), V.int p.2))) → Dt H (.ref a) (.dict (ns.map fun p => (PyData.int p.1, PyData.int p.2)))
inductive DtAll (H : Hp) : List V → List PyData → Prop
  | nil : DtAll H [] []
  | cons {v : V} {vs : List V} {d : PyData} {ds : List PyData} : Dt H v d → DtAll H vs ds → DtAll H (v :: vs) (d :: ds)
end
mutual
theorem Dt.mono {H H' : Hp} (e : Ex H H') : ∀ (d : PyData) (v : V), Dt H v d → Dt H' v d
  | .none, _, h => by cases h; exact .non
  | .bool b, _, h => by cases h; exact .bl b
  | .int i, _, h => by cases h; exact .int i
  | .str x, _, h => by cases h; exact .str x
  | .list ds, _, h => by
    cases h with
    | lst hs ha => exact .lst (e _ _ hs) (DtAll.mono e ds _ ha)
  | .tuple ds, _, h => by
    cases h with
    | tup hs ha => exact .tup (e _ _ hs) (DtAll.mono e ds _ ha)
  | .dict _, _, h => by
    cases h with
    | dic hs => exact .dic (e _ _ hs)
theorem DtAll.mono {H H' : Hp} (e : Ex H H') : ∀ (ds : List PyData) (vs : List V), DtAll H vs ds → DtAll H' vs ds
  | [], _, h => by cases h; exact .nil
  | d :: ds, _, h => by
    cases h with
    | cons h1 h2 => exact .cons (Dt.mono e d _ h1) (DtAll.mono e ds _ h2)
end
theorem Dt.up {H H' : Hp} {v : V} {d : PyData} (h : Dt H v d) (e : Ex H H') : Dt H' v d := Dt.mono e d v h
theorem DtAll.up {H H' : Hp} {v : List V} {d : List PyData} (h : DtAll H v d) (e : Ex H H') : DtAll H' v d := DtAll.mono e d v h
/-! data without lists in it: what is done to a list does not touch it -/
mutual
def noL : PyData → Bool
  | .list _ => false
  | .tuple ds => noLs ds
  | _ => true
def noLs : List PyData → Bool
  | [] => true
  | d :: ds => noL d && noLs ds
end
def IsL (H : Hp) (B : Addr) : Prop := ∃ xs, H B = some (.lst xs)
mutual
theorem Dt.monoB {B : Addr} {H H' : Hp} (hB : IsL H B) (e : ExB B H H') : ∀ (d : PyData) (v : V), noL d = true → Dt H v d → Dt H' v d
  | .none, _, _, h => by cases h; exact .non
  | .bool b, _, _, h => by cases h; exact .bl b
  | .int i, _, _, h => by cases h; exact .int i
  | .str x, _, _, h => by cases h; exact .str x
  | .list ds, _, n, h => nomatch n
  | .tuple ds, _, n, h => by
    cases h with
    | @tup a _ _ hs ha =>
      refine .tup (e a _ (fun z => ?_) hs) (DtAll.monoB hB e ds _ n ha)
      obtain ⟨xs, hx⟩ := hB
      rw [z, hx] at hs
      cases hs
  | .dict _, _, _, h => by
    cases h with
    | @dic a _ hs =>
      refine .dic (e a _ (fun z => ?_) hs)
      obtain ⟨xs, hx⟩ := hB
      rw [z, hx] at hs
      cases hs
theorem DtAll.monoB {B : Addr} {H H' : Hp} (hB : IsL H B) (e : ExB B H H') : ∀ (ds : List PyData) (vs : List V), noLs ds = true → DtAll H vs ds → DtAll H' vs ds
  | [], _, _, h => by cases h; exact .nil
  | d :: ds, _, n, h => by
    obtain ⟨n1, n2⟩ := Bool.and_eq_true_iff.mp (show (noL d && noLs ds) = true from n)
    cases h with
    | cons h1 h2 => exact .cons (Dt.monoB hB e d _ n1 h1) (DtAll.monoB hB e ds _ n2 h2)
end
theorem noLs_of {ds : List PyData} (h : ∀ d ∈ ds, noL d = true) : noLs ds = true := by
  induction ds with
  | nil => rfl
  | cons d ds ih =>
    show (noL d && noLs ds) = true
    rw [h d (List.mem_cons_self), ih fun x hx => h x (List.mem_cons_of_mem _ hx)]
    rfl
theorem noLs_mem {ds : List PyData} (h : noLs ds = true) : ∀ d ∈ ds, noL d = true := by
  induction ds with
  | nil => intro d hd; cases hd
  | cons x ds ih =>
    obtain ⟨n1, n2⟩ := Bool.and_eq_true_iff.mp (show (noL x && noLs ds) = true from h)
    intro d hd
    rcases List.mem_cons.mp hd with e | e
    · rw [e]; exact n1
    · exact ih n2 d e
/-! lists of data -/
theorem DtAll.len {H : Hp} : ∀ {vs : List V} {ds : List PyData}, DtAll H vs ds → vs.length = ds.length
  | _, _, .nil => rfl
  | _, _, .cons _ h => by rw [List.length_cons, List.length_cons, h.len]
theorem DtAll.app {H : Hp} : ∀ {vs us : List V} {ds es : List PyData}, DtAll H vs ds → DtAll H us es → DtAll H (vs ++ us) (ds ++ es)
  | _, _, _, _, .nil, h => h
  | _, _, _, _, .cons a b, h => .cons a (b.app h)
theorem DtAll.get {H : Hp} : ∀ {vs : List V} {ds : List PyData} (i : Nat) {v : V}, DtAll H vs ds → vs[i]? = some v → ∃ d, ds[i]? = some d ∧ Dt H v d
  | _, _, _, _, .nil, e => by simp at e
  | _, _, 0, _, .cons a _, e => by
    have e := Option.some.inj e
    subst e
    exact ⟨_, rfl, a⟩
  | _, _, i + 1, _, .cons _ b, e => b.get i e
theorem DtAll.getD {H : Hp} : ∀ {vs : List V} {ds : List PyData} (i : Nat) {d : PyData}, DtAll H vs ds → ds[i]? = some d → ∃ v, vs[i]? = some v ∧ Dt H v d
  | _, _, _, _, .nil, e => by simp at e
  | _, _, 0, _, .cons a _, e => by
    have e := Option.some.inj e
    subst e
    exact ⟨_, rfl, a⟩
  | _, _, i + 1, _, .cons _ b, e => b.getD i e
theorem DtAll.ints {H : Hp} : ∀ ns : List Int, DtAll H (ns.map V.int) (ns.map PyData.int)
  | [] => .nil
  | n :: ns => .cons (.int n) (DtAll.ints ns)
theorem DtAll.ints_eq {H : Hp} : ∀ {vs : List V} (ns : List Int), DtAll H vs (ns.map PyData.int) → vs = ns.map V.int
  | _, [], h => by cases h; rfl
  | _, n :: ns, h => by
    cases h with
    | cons a b =>
      cases a
      rw [DtAll.ints_eq ns b]
      rfl
theorem Dt.int_eq {H : Hp} {v : V} {i : Int} (h : Dt H v (.int i)) : v = .int i := by cases h; rfl
theorem Dt.bl_eq {H : Hp} {v : V} {b : Bool} (h : Dt H v (.bool b)) : v = .bl b := by cases h; rfl
theorem Dt.non_eq {H : Hp} {v : V} (h : Dt H v .none) : v = .non := by cases h; rfl
theorem Dt.tup_get {H : Hp} {v : V} {ds : List PyData} (h : Dt H v (.tuple ds)) : ∃ a xs, v = .ref a ∧ H a = some (.tup xs) ∧ DtAll H xs ds := by
  cases h with
  | tup a b => exact ⟨_, _, rfl, a, b⟩
theorem Dt.lst_get {H : Hp} {v : V} {ds : List PyData} (h : Dt H v (.list ds)) : ∃ a xs, v = .ref a ∧ H a = some (.lst xs) ∧ DtAll H xs ds := by
  cases h with
  | lst a b => exact ⟨_, _, rfl, a, b⟩
/-! into the layer's own word -/
mutual
theorem Dt.dp {K : PySem.W.Frag} {H : Hp} : ∀ (d : PyData) (v : V), d.canLay0 = true → Dt H v d → Dp K H v d
  | .none, _, _, h => by cases h; exact .non
  | .bool b, _, _, h => by cases h; exact .bl b
  | .int i, _, _, h => by cases h; exact .int i
  | .str x, _, _, h => by cases h; exact .str x
  | .list ds, _, n, h => by
    have n : PyData.canLayAll0 ds = true := by simpa [PyData.canLay0] using n
    cases h with
    | lst hs ha => exact .lst (.inl (.inl hs)) (DtAll.dp ds _ n ha)
  | .tuple ds, _, n, h => by
    have n : PyData.canLayAll0 ds = true := by simpa [PyData.canLay0] using n
    cases h with
    | tup hs ha => exact .tup (.inl (.inl hs)) (DtAll.dp ds _ n ha)
  | .dict _, _, n, _ => by simp [PyData.canLay0] at n
theorem DtAll.dp {K : PySem.W.Frag} {H : Hp} : ∀ (ds : List PyData) (vs : List V), PyData.canLayAll0 ds = true → DtAll H vs ds → DpAll K H vs ds
  | [], _, _, h => by cases h; exact .nil
  | d :: ds, _, n, h => by
    have n : d.canLay0 = true ∧ PyData.canLayAll0 ds = true := by simpa [PyData.canLayAll0] using n
    cases h with
    | cons h1 h2 => exact .cons (Dt.dp d _ n.1 h1) (DtAll.dp ds _ n.2 h2)
end
/-! ### kinds -/
def tyN : PyData → String
  | .none => "NoneType"
  | .bool _ => "bool"
  | .int _ => "int"
  | .str _ => "str"
  | .list _ => "list"
  | .tuple _ => "tuple"
  | .dict _ => "dict"
theorem Dt.ty {K : PySem.W.Frag} {H : Hp} {v : V} {d : PyData} (h : Dt H v d) : TyX K H v (.type (tyN d)) := by
  cases h with
  | non => exact .base .non
  | bl b => exact .base (.bl b)
  | int i => exact .base (.int i)
  | str x => exact .base (.str x)
  | lst a b => exact .base (.lst a)
  | tup a b => exact .base (.tup a)
  | dic a => exact .base (.dK a)
def dInt : PyData → Bool
  | .int _ | .bool _ => true
  | _ => false
def dBool : PyData → Bool
  | .bool _ => true
  | _ => false
def dTup : PyData → Bool
  | .tuple _ => true
  | _ => false
def dLst : PyData → Bool
  | .list _ => true
  | _ => false
/-- a whole number -/
def dWhole : PyData → Bool
  | .int _ => true
  | _ => false
theorem kit_int (d : PyData) : kitB (tyN d) "int" = some (dInt d) := by
  cases d with
  | none => show kitB "NoneType" "int" = some false; decide +kernel
  | bool _ => show kitB "bool" "int" = some true; decide +kernel
  | int _ => show kitB "int" "int" = some true; decide +kernel
  | str _ => show kitB "str" "int" = some false; decide +kernel
  | list _ => show kitB "list" "int" = some false; decide +kernel
  | tuple _ => show kitB "tuple" "int" = some false; decide +kernel
  | dict _ => show kitB "dict" "int" = some false; decide +kernel
theorem kit_bool (d : PyData) : kitB (tyN d) "bool" = some (dBool d) := by
  cases d with
  | none => show kitB "NoneType" "bool" = some false; decide +kernel
  | bool _ => show kitB "bool" "bool" = some true; decide +kernel
  | int _ => show kitB "int" "bool" = some false; decide +kernel
  | str _ => show kitB "str" "bool" = some false; decide +kernel
  | list _ => show kitB "list" "bool" = some false; decide +kernel
  | tuple _ => show kitB "tuple" "bool" = some false; decide +kernel
  | dict _ => show kitB "dict" "bool" = some false; decide +kernel
theorem kit_tup (d : PyData) : kitB (tyN d) "tuple" = some (dTup d) := by
  cases d with
  | none => show kitB "NoneType" "tuple" = some false; decide +kernel
  | bool _ => show kitB "bool" "tuple" = some false; decide +kernel
  | int _ => show kitB "int" "tuple" = some false; decide +kernel
  | str _ => show kitB "str" "tuple" = some false; decide +kernel
  | list _ => show kitB "list" "tuple" = some false; decide +kernel
  | tuple _ => show kitB "tuple" "tuple" = some true; decide +kernel
  | dict _ => show kitB "dict" "tuple" = some false; decide +kernel
theorem kit_lst (d : PyData) : kitB (tyN d) "list" = some (dLst d) := by
  cases d with
  | none => show kitB "NoneType" "list" = some false; decide +kernel
  | bool _ => show kitB "bool" "list" = some false; decide +kernel
  | int _ => show kitB "int" "list" = some false; decide +kernel
  | str _ => show kitB "str" "list" = some false; decide +kernel
  | list _ => show kitB "list" "list" = some true; decide +kernel
  | tuple _ => show kitB "tuple" "list" = some false; decide +kernel
  | dict _ => show kitB "dict" "list" = some false; decide +kernel
theorem rIsi_of {K : PySem.W.Frag} {H : Hp} {v : V} {d : PyData} {c : String} {b : Bool} {Q : VK} (h : Dt H v d) (k : kitB (tyN d) c = some b) (q : Q (.bl b) H) : rIsi K [v, .ty c] H Q :=
  ⟨v, .ty c, _, _, b, rfl, .ty c, h.ty, kit_ty k, q⟩
/-! ### the refusals' classes -/
def ExcFacts (K : PySem.W.Frag) (C : Addr) : Prop := PySem.W.excIn K C He.veBase "ValueError.__new__" = true ∧ PySem.W.keepIn K (.ref C) = true ∧ PySem.W.subIn K (.ref C) (.type "BaseException") = some true ∧ PySem.W.typeIn K (.ref C) = some (.type "type")
theorem excFacts_of {K : PySem.W.Frag} {x : Str} (c : (He.Fa.exc x).ok K = true) : ExcFacts K (He.ga K x) := by
  obtain ⟨c1, c⟩ := He.ba c
  obtain ⟨c2, c⟩ := He.ba c
  obtain ⟨c3, c4⟩ := He.ba c
  exact ⟨c1, c2, of_decide_eq_true c3, of_decide_eq_true c4⟩
/-! ### tests -/
theorem itT {b : Bool} {A B : Prop} (hb : b = true) (h : A) : if b = true then A else B := by
  rw [if_pos hb]
  exact h
theorem itF {b : Bool} {A B : Prop} (hb : b = false) (h : B) : if b = true then A else B := by
  rw [if_neg (by rw [hb]; exact Bool.false_ne_true)]
  exact h
theorem it2 {b : Bool} {A B : Prop} (h1 : b = true → A) (h2 : b = false → B) : if b = true then A else B := by
  cases b with
  | true => exact itT rfl (h1 rfl)
  | false => exact itF rfl (h2 rfl)
theorem dI {i j : Int} : decide (V.int i = V.int j) = decide (i = j) := by
  by_cases e : i = j
  · subst e
    rw [decide_eq_true rfl, decide_eq_true rfl]
  · rw [decide_eq_false e, decide_eq_false fun z => e (V.int.inj z)]
/-! ### greatest divisors -/
theorem gcd_step (x y : Int) : Int.gcd y (x % y) = Int.gcd x y := by
  have e : x % y = x - y * (x / y) := Int.emod_def x y
  refine Nat.dvd_antisymm (Int.dvd_gcd ?_ (Int.gcd_dvd_left y (x % y))) (Int.dvd_gcd (Int.gcd_dvd_right x y) ?_)
  · have h1 : ((Int.gcd y (x % y) : Nat) : Int) ∣ y := Int.gcd_dvd_left y (x % y)
    have h2 : ((Int.gcd y (x % y) : Nat) : Int) ∣ x % y := Int.gcd_dvd_right y (x % y)
    have h3 : x = x % y + y * (x / y) := by omega
    rw [h3]
    have h4 : ((Int.gcd y (x % y) : Nat) : Int) ∣ x % y + y * (x / y) := Int.dvd_add h2 (Int.dvd_mul_of_dvd_left h1)
    rw [← h3]
    rw [← h3] at h4
    exact h4
  · rw [e]
    exact Int.dvd_sub (Int.gcd_dvd_left x y) (Int.dvd_mul_of_dvd_left (Int.gcd_dvd_right x y))
def dPair : PyData → Bool
  | .tuple ds => decide (ds.length = 2)
  | _ => false
theorem dPair_get {d : PyData} (h : dPair d = true) : ∃ a b, d = .tuple [a, b] := by
  cases d with
  | tuple ds =>
    have h : ds.length = 2 := of_decide_eq_true h
    match ds, h with
    | [a, b], _ => exact ⟨a, b, rfl⟩
  | _ => exact nomatch h
theorem dWhole_get {d : PyData} (h : dWhole d = true) : ∃ i, d = .int i := by
  cases d with
  | int i => exact ⟨i, rfl⟩
  | _ => exact nomatch h
/-- bounds (n, d), both at most m -/
def dBounds : PyData → Bool
  | .tuple [.int n, .int d] => decide (0 ≤ n) && decide (1 ≤ d)
  | _ => false
def dBoundsTo (m : Int) : PyData → Bool
  | .tuple [.int n, .int d] => decide (0 ≤ n) && decide (1 ≤ d) && decide (n ≤ m) && decide (d ≤ m)
  | _ => false
theorem dBounds_pair {d : PyData} (h : dPair d = false) : dBounds d = false := by
  match d, h with
  | .tuple [], _ => simp [dBounds]
  | .tuple [_], _ => simp [dBounds]
  | .tuple [_, _], h => exact nomatch h
  | .tuple (_ :: _ :: _ :: _), _ => simp [dBounds]
  | .none, _ => rfl
  | .bool _, _ => rfl
  | .int _, _ => rfl
  | .str _, _ => rfl
  | .list _, _ => rfl
  | .dict _, _ => rfl
theorem dBounds_get {d : PyData} (h : dBounds d = true) : ∃ n m : Int, d = .tuple [.int n, .int m] ∧ 0 ≤ n ∧ 1 ≤ m := by
  unfold dBounds at h
  split at h
  · obtain ⟨h1, h2⟩ := Bool.and_eq_true_iff.mp h
    exact ⟨_, _, rfl, of_decide_eq_true h1, of_decide_eq_true h2⟩
  · cases h
theorem dBoundsTo_no {m : Int} {d : PyData} (h : dBounds d = false) : dBoundsTo m d = false := by
  unfold dBoundsTo
  split
  · unfold dBounds at h
    simp only at h
    rw [h]
    rfl
  · rfl
/-! ### lists that grow, of data without lists -/
def AccL (H : Hp) (D : Addr) (ds : List PyData) : Prop := ∃ acc, H D = some (.lst acc) ∧ DtAll H acc ds ∧ noLs ds = true
theorem noLs_app {a b : List PyData} (h1 : noLs a = true) (h2 : noLs b = true) : noLs (a ++ b) = true := noLs_of fun d hd => by
  rcases List.mem_append.mp hd with e | e
  · exact noLs_mem h1 d e
  · exact noLs_mem h2 d e
theorem AccL.new {H : Hp} {D : Addr} : AccL (upd H D (.lst [])) D [] := ⟨[], upd_same, .nil, rfl⟩
theorem AccL.up {H H' : Hp} {D : Addr} {ds : List PyData} (h : AccL H D ds) (e : Ex H H') : AccL H' D ds := by
  obtain ⟨acc, h1, h2, h3⟩ := h
  exact ⟨acc, e _ _ h1, h2.up e, h3⟩
theorem AccL.app {H H2 : Hp} {D : Addr} {ds : List PyData} {v : V} {d : PyData} (h : AccL H D ds) (e : Ex H H2) (hv : Dt H2 v d) (nd : noL d = true) : ∃ acc, H2 D = some (.lst acc) ∧ acc.length = ds.length ∧ AccL (upd H2 D (.lst (acc ++ [v]))) D (ds ++ [d]) := by
  obtain ⟨acc, h1, h2, h3⟩ := h
  have hD := e _ _ h1
  have hL : IsL H2 D := ⟨acc, hD⟩
  refine ⟨acc, hD, h2.len, acc ++ [v], upd_same, DtAll.app ?_ (.cons ?_ .nil), noLs_app h3 ?_⟩
  · exact DtAll.monoB hL ExB.upd ds acc h3 (h2.up e)
  · exact Dt.monoB hL ExB.upd d v nd hv
  · show (noL d && true) = true
    rw [nd]
    rfl
theorem AccL.dt {H : Hp} {D : Addr} {ds : List PyData} (h : AccL H D ds) : Dt H (.ref D) (.list ds) := by
  obtain ⟨acc, h1, h2, _⟩ := h
  exact .lst h1 h2
/-! ### the draws -/
def PoolB (H : Hp) (pa : Addr) (n : Nat) : Prop := ∃ a b c : Int, H pa = some (.lst [.int a, .int b, .int c]) ∧ 0 ≤ c ∧ c + n ≤ 1099511627776
theorem PoolB.isL {H : Hp} {pa : Addr} {n : Nat} (h : PoolB H pa n) : IsL H pa := by
  obtain ⟨a, b, c, h, _⟩ := h
  exact ⟨_, h⟩
theorem PoolB.up {H H' : Hp} {pa : Addr} {n : Nat} (h : PoolB H pa n) (e : Ex H H') : PoolB H' pa n := by
  obtain ⟨a, b, c, h, h2⟩ := h
  exact ⟨a, b, c, e _ _ h, h2⟩
theorem PoolB.less {H : Hp} {pa : Addr} {n m : Nat} (h : PoolB H pa n) (l : m ≤ n) : PoolB H pa m := by
  obtain ⟨a, b, c, h, h2, h3⟩ := h
  exact ⟨a, b, c, h, h2, by omega⟩
theorem ExB.free {B : Addr} {H H' : Hp} (e : ExB B H H') (hB : IsL H' B) {p : Addr} (h : H' p = none) : H p = none := by
  cases q : H p with
  | none => rfl
  | some o =>
    by_cases z : p = B
    · obtain ⟨xs, hx⟩ := hB
      rw [z, hx] at h
      cases h
    · rw [e p o z q] at h
      cases h
theorem Dt.dr {B : Addr} {H H' : Hp} {v : V} {d : PyData} (h : Dt H v d) (hB : IsL H B) (e : ExB B H H') (n : noL d = true) : Dt H' v d := Dt.monoB hB e d v n h
/-! ### picked ones, in order -/
def sel (f : Nat → Bool) (g : Nat → PyData) : Nat → List PyData
  | 0 => []
  | n + 1 => sel f g n ++ (if f n = true then [g n] else [])
theorem sel_yes {f : Nat → Bool} {g : Nat → PyData} {n : Nat} (h : f n = true) : sel f g (n + 1) = sel f g n ++ [g n] := by
  show sel f g n ++ (if f n = true then [g n] else []) = _
  rw [if_pos h]
theorem sel_no {f : Nat → Bool} {g : Nat → PyData} {n : Nat} (h : f n = false) : sel f g (n + 1) = sel f g n := by
  show sel f g n ++ (if f n = true then [g n] else []) = _
  rw [if_neg (by rw [h]; exact Bool.false_ne_true), List.append_nil]
theorem sel_len (f : Nat → Bool) (g : Nat → PyData) : ∀ n : Nat, (sel f g n).length ≤ n
  | 0 => Nat.le_refl 0
  | n + 1 => by
    have h := sel_len f g n
    cases e : f n with
    | true => rw [sel_yes e, List.length_append]; exact Nat.add_le_add h (Nat.le_refl 1)
    | false => rw [sel_no e]; omega
theorem sel_congr {f f' : Nat → Bool} {g g' : Nat → PyData} : ∀ n : Nat, (∀ i, i < n → f i = f' i) → (∀ i, i < n → g i = g' i) → sel f g n = sel f' g' n
  | 0, _, _ => rfl
  | n + 1, h1, h2 => by
    show sel f g n ++ (if f n = true then [g n] else []) = sel f' g' n ++ (if f' n = true then [g' n] else [])
    rw [sel_congr n (fun i hi => h1 i (by omega)) (fun i hi => h2 i (by omega)), h1 n (by omega), h2 n (by omega)]
theorem _root_.Evl.Ex.keepB {B : Addr} {H0 H H' : Hp} (a : Ex H0 H) (n : H0 B = none) (b : ExB B H H') : Ex H0 H' := fun x o h => b x o (ne_of_none h n) (a x o h)
/-! ### what an expression is worth, as data -/
def EvD (te : TE) (σ : L2.St) (H : Hp) (d : PyData) : Prop := ∀ H1, Ex H H1 → ∀ Q : VK, (∀ v H2, Ex H1 H2 → Dt H2 v d → Q v H2) → te σ H1 Q
def EvN (te : TE) (σ : L2.St) (H : Hp) (ds : List PyData) : Prop := ∀ H1, Ex H H1 → ∀ Q : VK, (∀ p H2, H1 p = none → Ex H1 H2 → AccL H2 p ds → Q (.ref p) H2) → te σ H1 Q
def EvDA (ta : TA) (σ : L2.St) (H : Hp) (ds : List PyData) : Prop := ∀ H1, Ex H H1 → ∀ Q : List V → Hp → Prop, (∀ vs H2, Ex H1 H2 → DtAll H2 vs ds → Q vs H2) → ta σ H1 Q
section
variable {K : PySem.W.Frag} {σ : L2.St} {H H' : Hp} {ta tb te tl : TE} {t u : TT} {d : PyData} {ds : List PyData}
theorem EvD.mono (e : Ex H H') (h : EvD te σ H d) : EvD te σ H' d := fun H1 a Q q => h H1 (e.trans a) Q q
theorem EvN.mono (e : Ex H H') (h : EvN te σ H ds) : EvN te σ H' ds := fun H1 a Q q => h H1 (e.trans a) Q q
theorem EvN.ed (h : EvN te σ H ds) : EvD te σ H (.list ds) := fun H1 e Q q => h H1 e Q fun p H2 _ e2 a => q _ H2 e2 a.dt
theorem ed_of {v : V} (h : Ev te σ H v) (hd : Dt H v d) : EvD te σ H d := fun H1 e Q q => h H1 e Q fun H2 e2 => q v H2 e2 (hd.up (e.trans e2))
theorem ed_var {v : V} {i : Nat} (h : σ[i]? = some (some v)) (hd : Dt H v d) : EvD (tVar i) σ H d := ed_of (ev_var h) hd
theorem ed_int {i : Int} (h : Ev te σ H (.int i)) : EvD te σ H (.int i) := ed_of h (.int i)
theorem ev_int {i : Int} (h : EvD te σ H (.int i)) : Ev te σ H (.int i) := fun H1 e Q q => h H1 e Q fun v H2 e2 hd => by
  rw [hd.int_eq]
  exact q H2 e2
theorem ev_bl {b : Bool} (h : EvD te σ H (.bool b)) : Ev te σ H (.bl b) := fun H1 e Q q => h H1 e Q fun v H2 e2 hd => by
  rw [hd.bl_eq]
  exact q H2 e2
theorem eda_nil : EvDA tNil σ H [] := fun H1 _ _ q => q [] H1 (Ex.refl H1) .nil
theorem eda_cons {tr : TA} (h : EvD te σ H d) (hr : EvDA tr σ H ds) : EvDA (tCons te tr) σ H (d :: ds) := fun H1 e _ q =>
  h H1 e _ fun v H2 e2 hv => hr H2 (e.trans e2) _ fun vs H3 e3 hvs => q (v :: vs) H3 (e2.trans e3) (.cons (hv.up e3) hvs)
theorem ed_tup {tr : TA} (h : EvDA tr σ H ds) (hl : ds.length ≤ 100000) : EvD (tTup tr) σ H (.tuple ds) := fun H1 e _ q =>
  h H1 e _ fun vs H2 e2 hv => ⟨sz_of (by rw [hv.len]; exact hl), fun p hp => q _ _ (e2.trans (Ex.new hp)) (.tup upd_same (hv.up (Ex.new hp)))⟩
theorem en_lst {tr : TA} (h : EvDA tr σ H ds) (hl : ds.length ≤ 100000) (hn : noLs ds = true) : EvN (tLst tr) σ H ds := fun H1 e _ q =>
  h H1 e _ fun vs H2 e2 hv => ⟨sz_of (by rw [hv.len]; exact hl), fun p hp => q p _ (fresh_back e2 hp) (e2.trans (Ex.new hp)) ⟨vs, upd_same, hv.up (Ex.new hp), hn⟩⟩
/-- one turn of a comprehension -/
theorem lc_turn {H1 H2 : Hp} {D : Addr} {dsi : List PyData} {b : Bool} {σ2 : L2.St} (p : Ex H1 H2 ∧ AccL H2 D dsi) (hD : H1 D = none) (hz : dsi.length < 50000) (ht : EvT t σ2 H1 b) (he : b = true → EvD te σ2 H1 d) (nd : b = true → noL d = true) :
    t σ2 H2 fun c H3 => if c = true then te σ2 H3 fun y H4 => ∃ acc, H4 D = some (.lst acc) ∧ acc.length < sizeLine ∧ (Ex H1 (upd H4 D (.lst (acc ++ [y]))) ∧ AccL (upd H4 D (.lst (acc ++ [y]))) D (dsi ++ (if b = true then [d] else []))) else (Ex H1 H3 ∧ AccL H3 D (dsi ++ (if b = true then [d] else []))) := by
  obtain ⟨e1, a1⟩ := p
  refine ht H2 e1 _ fun H3 e3 => ?_
  cases b with
  | true =>
    refine itT rfl (he rfl H3 (e1.trans e3) _ fun v H4 e4 hv => ?_)
    obtain ⟨acc, h1, h2, h3⟩ := a1.app (e3.trans e4) hv (nd rfl)
    exact ⟨acc, h1, sz_lt (by omega), Ex.mut ((e1.trans e3).trans e4) hD, h3⟩
  | false =>
    refine itF rfl ⟨e1.trans e3, ?_⟩
    rw [if_neg Bool.false_ne_true, List.append_nil]
    exact a1.up e3
theorem take_flt {α β : Type} (f : α → Bool) (g : α → β) {ds : List α} {i : Nat} {d : α} (h : ds[i]? = some d) : ((ds.take (i + 1)).filter f).map g = ((ds.take i).filter f).map g ++ (if f d = true then [g d] else []) := by
  rw [List.take_add_one, h, List.filter_append, List.map_append]
  congr 1
  cases e : f d with
  | true => simp [e]
  | false => simp [e]
theorem flt_len {α β : Type} (f : α → Bool) (g : α → β) (ds : List α) (i : Nat) : (((ds.take i).filter f).map g).length ≤ ds.length := by
  rw [List.length_map]
  have h1 := List.length_filter_le f (ds.take i)
  have h2 : (ds.take i).length ≤ ds.length := by
    rw [List.length_take]
    exact Nat.min_le_right _ _
  omega
/-- [te for x in tl if t] over a list of data -/
theorem en_lcD {j : Nat} {vs : List Nat} (f : PyData → Bool) (g : PyData → PyData) (h : EvD tl σ H (.list ds)) (hz : ds.length ≤ 40000) (hw : ∀ x, wipe ((wipe σ vs).set j (some x)) vs = wipe σ vs)
    (ht : ∀ H1 v d, Ex H H1 → d ∈ ds → Dt H1 v d → EvT t ((wipe σ vs).set j (some v)) H1 (f d)) (he : ∀ H1 v d, Ex H H1 → d ∈ ds → Dt H1 v d → f d = true → EvD te ((wipe σ vs).set j (some v)) H1 (g d)) (hn : ∀ d, d ∈ ds → f d = true → noL (g d) = true) :
    EvN (tLc (iList K tl) (gName j) t te vs) σ H ((ds.filter f).map g) := fun H0 e Q q => h H0 e _ fun v H1 e1 hv => by
  obtain ⟨a, xs, rfl, ha, hx⟩ := hv.lst_get
  refine ⟨a, rfl, ⟨xs, sq_of ha⟩, fun D hD => lc_list (xs := xs) (fun i H' => Ex H1 H' ∧ AccL H' D (((ds.take i).filter f).map g)) ⟨Ex.new hD, AccL.new⟩ (fun i H' _ p => sq_of (p.1 a _ ha)) (fun i x H' hi p => ?_) (fun H' p => ?_)⟩
  · obtain ⟨d, hd, hxd⟩ := hx.get i hi
    have hm := List.mem_of_getElem? hd
    refine ⟨hw x, ?_⟩
    show t _ H' fun c H3 => if c = true then te _ H3 fun y H4 => ∃ acc, H4 D = some (.lst acc) ∧ acc.length < sizeLine ∧ (Ex H1 (upd H4 D (.lst (acc ++ [y]))) ∧ AccL (upd H4 D (.lst (acc ++ [y]))) D (((ds.take (i + 1)).filter f).map g)) else (Ex H1 H3 ∧ AccL H3 D (((ds.take (i + 1)).filter f).map g))
    rw [take_flt f g hd]
    exact lc_turn p hD (by have := flt_len f g ds i; omega) (ht H1 x d (e.trans e1) hm hxd) (fun hf => he H1 x d (e.trans e1) hm hxd hf) (hn d hm)
  · rw [hx.len, List.take_length] at p
    exact q D H' (fresh_back e1 hD) (e1.trans p.1) p.2
/-- .. over a tuple of data -/
theorem en_lcT {j : Nat} {vs : List Nat} (f : PyData → Bool) (g : PyData → PyData) (h : EvD tl σ H (.tuple ds)) (hz : ds.length ≤ 40000) (hw : ∀ x, wipe ((wipe σ vs).set j (some x)) vs = wipe σ vs)
    (ht : ∀ H1 v d, Ex H H1 → d ∈ ds → Dt H1 v d → EvT t ((wipe σ vs).set j (some v)) H1 (f d)) (he : ∀ H1 v d, Ex H H1 → d ∈ ds → Dt H1 v d → f d = true → EvD te ((wipe σ vs).set j (some v)) H1 (g d)) (hn : ∀ d, d ∈ ds → f d = true → noL (g d) = true) :
    EvN (tLc (iTup K tl) (gName j) t te vs) σ H ((ds.filter f).map g) := fun H0 e Q q => h H0 e _ fun v H1 e1 hv => by
  obtain ⟨a, xs, rfl, ha, hx⟩ := hv.tup_get
  refine ⟨a, rfl, ⟨xs, st_of ha⟩, fun D hD => lc_tup (xs := xs) (fun i H' => Ex H1 H' ∧ AccL H' D (((ds.take i).filter f).map g)) ⟨Ex.new hD, AccL.new⟩ (fun i H' _ p => st_of (p.1 a _ ha)) (fun i x H' hi p => ?_) (fun H' p => ?_)⟩
  · obtain ⟨d, hd, hxd⟩ := hx.get i hi
    have hm := List.mem_of_getElem? hd
    refine ⟨hw x, ?_⟩
    show t _ H' fun c H3 => if c = true then te _ H3 fun y H4 => ∃ acc, H4 D = some (.lst acc) ∧ acc.length < sizeLine ∧ (Ex H1 (upd H4 D (.lst (acc ++ [y]))) ∧ AccL (upd H4 D (.lst (acc ++ [y]))) D (((ds.take (i + 1)).filter f).map g)) else (Ex H1 H3 ∧ AccL H3 D (((ds.take (i + 1)).filter f).map g))
    rw [take_flt f g hd]
    exact lc_turn p hD (by have := flt_len f g ds i; omega) (ht H1 x d (e.trans e1) hm hxd) (fun hf => he H1 x d (e.trans e1) hm hxd hf) (hn d hm)
  · rw [hx.len, List.take_length] at p
    exact q D H' (fresh_back e1 hD) (e1.trans p.1) p.2
/-- .. over a range -/
def irng (lo hi : Int) : List Int := (List.range (hi - lo).toNat).map fun (i : Nat) => lo + (i : Int)
theorem irng_get {lo hi : Int} {i : Nat} (h : i < (hi - lo).toNat) : (irng lo hi)[i]? = some (lo + (i : Int)) := by
  unfold irng
  rw [List.getElem?_map, List.getElem?_range h]
  rfl
theorem irng_len (lo hi : Int) : (irng lo hi).length = (hi - lo).toNat := by
  unfold irng
  rw [List.length_map, List.length_range]
theorem irng_mem {lo hi x : Int} : x ∈ irng lo hi ↔ lo ≤ x ∧ x < hi := by
  unfold irng
  rw [List.mem_map]
  constructor
  · rintro ⟨i, hi, rfl⟩
    have := List.mem_range.mp hi
    omega
  · rintro ⟨h1, h2⟩
    exact ⟨(x - lo).toNat, List.mem_range.mpr (by omega), by omega⟩
theorem en_lcR2 {ta : TA} {j : Nat} {vs : List Nat} {lo hi : Int} (f : Int → Bool) (g : Int → PyData) (h : EvA ta σ H [.int lo, .int hi]) (hz : -1000000 ≤ lo ∧ hi ≤ 1000000 ∧ hi - lo ≤ 40000 ∧ lo ≤ 1000000 ∧ -1000000 ≤ hi) (hw : ∀ x, wipe ((wipe σ vs).set j (some x)) vs = wipe σ vs)
    (ht : ∀ x, lo ≤ x → x < hi → EvT t ((wipe σ vs).set j (some (.int x))) H (f x)) (he : ∀ x, lo ≤ x → x < hi → f x = true → EvD te ((wipe σ vs).set j (some (.int x))) H (g x)) (hn : ∀ x, lo ≤ x → x < hi → f x = true → noL (g x) = true) :
    EvN (tLc (iRng2 ta) (gName j) t te vs) σ H (((irng lo hi).filter f).map g) := fun H0 e Q q => h H0 e _ fun H1 e1 => by
  refine ⟨lo, hi, rfl, ⟨by omega, by omega, by omega, by omega⟩, fun D hD => lc_range (lo := lo) (n := (hi - lo).toNat) (fun i H' => Ex H1 H' ∧ AccL H' D ((((irng lo hi).take i).filter f).map g)) ⟨Ex.new hD, AccL.new⟩ (fun i H' hi' p => ?_) (fun H' p => ?_)⟩
  · refine ⟨hw _, ?_⟩
    show t _ H' fun c H3 => if c = true then te _ H3 fun y H4 => ∃ acc, H4 D = some (.lst acc) ∧ acc.length < sizeLine ∧ (Ex H1 (upd H4 D (.lst (acc ++ [y]))) ∧ AccL (upd H4 D (.lst (acc ++ [y]))) D ((((irng lo hi).take (i + 1)).filter f).map g)) else (Ex H1 H3 ∧ AccL H3 D ((((irng lo hi).take (i + 1)).filter f).map g))
    rw [take_flt f g (irng_get hi')]
    refine lc_turn p hD ?_ ((ht _ (by omega) (by omega)).mono (e.trans e1)) (fun hf => (he _ (by omega) (by omega) hf).mono (e.trans e1)) (hn _ (by omega) (by omega))
    have := flt_len f g (irng lo hi) i
    rw [irng_len] at this
    omega
  · rw [List.take_of_length_le (by rw [irng_len]; exact Nat.le_refl _)] at p
    exact q D H' (fresh_back e1 hD) (e1.trans p.1) p.2
theorem en_lcR1 {ta : TA} {j : Nat} {vs : List Nat} {hi : Int} (f : Int → Bool) (g : Int → PyData) (h : EvA ta σ H [.int hi]) (hz : -1000000 ≤ hi ∧ hi ≤ 40000) (hw : ∀ x, wipe ((wipe σ vs).set j (some x)) vs = wipe σ vs)
    (ht : ∀ x, 0 ≤ x → x < hi → EvT t ((wipe σ vs).set j (some (.int x))) H (f x)) (he : ∀ x, 0 ≤ x → x < hi → f x = true → EvD te ((wipe σ vs).set j (some (.int x))) H (g x)) (hn : ∀ x, 0 ≤ x → x < hi → f x = true → noL (g x) = true) :
    EvN (tLc (iRng1 ta) (gName j) t te vs) σ H (((irng 0 hi).filter f).map g) := fun H0 e Q q => h H0 e _ fun H1 e1 => by
  refine ⟨hi, rfl, by omega, by omega, fun D hD => lc_range (lo := 0) (n := hi.toNat) (fun i H' => Ex H1 H' ∧ AccL H' D ((((irng 0 hi).take i).filter f).map g)) ⟨Ex.new hD, AccL.new⟩ (fun i H' hi' p => ?_) (fun H' p => ?_)⟩
  · refine ⟨hw _, ?_⟩
    show t _ H' fun c H3 => if c = true then te _ H3 fun y H4 => ∃ acc, H4 D = some (.lst acc) ∧ acc.length < sizeLine ∧ (Ex H1 (upd H4 D (.lst (acc ++ [y]))) ∧ AccL (upd H4 D (.lst (acc ++ [y]))) D ((((irng 0 hi).take (i + 1)).filter f).map g)) else (Ex H1 H3 ∧ AccL H3 D ((((irng 0 hi).take (i + 1)).filter f).map g))
    rw [take_flt f g (irng_get (lo := 0) (hi := hi) (by omega))]
    refine lc_turn p hD ?_ ((ht _ (by omega) (by omega)).mono (e.trans e1)) (fun hf => (he _ (by omega) (by omega) hf).mono (e.trans e1)) (hn _ (by omega) (by omega))
    have := flt_len f g (irng 0 hi) i
    rw [irng_len] at this
    omega
  · rw [List.take_of_length_le (by rw [irng_len]; omega)] at p
    exact q D H' (fresh_back e1 hD) (e1.trans p.1) p.2
end
/-! ### == of data -/
mutual
def flat1 : PyData → Bool
  | .none | .bool _ | .int _ => true
  | _ => false
end
theorem canLay_ints : ∀ ns : List Int, PyData.canLayAll0 (ns.map PyData.int) = true
  | [] => rfl
  | n :: ns => by
    show ((PyData.int n).canLay0 && PyData.canLayAll0 (ns.map PyData.int)) = true
    rw [canLay_ints ns]
    rfl
theorem depth_ints : ∀ ns : List Int, PyData.depthAll (ns.map PyData.int) = 0
  | [] => rfl
  | n :: ns => by
    show max (PyData.depth (.int n)) (PyData.depthAll (ns.map PyData.int)) = 0
    rw [depth_ints ns]
    rfl
theorem shaped_ints (ns : List Int) : SeqAt.shaped (.list (ns.map PyData.int)) = true := by
  show (PyData.canLayAll0 (ns.map PyData.int) && decide (PyData.depthAll (ns.map PyData.int) + 1 ≤ 64)) = true
  rw [canLay_ints, depth_ints]
  rfl
theorem shaped_intsT (ns : List Int) : SeqAt.shaped (.tuple (ns.map PyData.int)) = true := by
  show (PyData.canLayAll0 (ns.map PyData.int) && decide (PyData.depthAll (ns.map PyData.int) + 1 ≤ 64)) = true
  rw [canLay_ints, depth_ints]
  rfl
/-- a list (tuple) of things of at most k deep -/
theorem lay_all {ds : List PyData} {k : Nat} (h : ∀ d ∈ ds, d.canLay0 = true ∧ d.depth ≤ k) : PyData.canLayAll0 ds = true ∧ PyData.depthAll ds ≤ k := by
  induction ds with
  | nil => exact ⟨rfl, Nat.zero_le _⟩
  | cons d ds ih =>
    obtain ⟨h1, h2⟩ := h d List.mem_cons_self
    obtain ⟨h3, h4⟩ := ih fun x hx => h x (List.mem_cons_of_mem _ hx)
    refine ⟨?_, ?_⟩
    · show (d.canLay0 && PyData.canLayAll0 ds) = true
      rw [h1, h3]
      rfl
    · show max d.depth (PyData.depthAll ds) ≤ k
      omega
theorem lay_list {ds : List PyData} {k : Nat} (h : ∀ d ∈ ds, d.canLay0 = true ∧ d.depth ≤ k) : (PyData.list ds).canLay0 = true ∧ (PyData.list ds).depth ≤ k + 1 := by
  obtain ⟨h1, h2⟩ := lay_all h
  exact ⟨h1, Nat.succ_le_succ h2⟩
theorem lay_tup {ds : List PyData} {k : Nat} (h : ∀ d ∈ ds, d.canLay0 = true ∧ d.depth ≤ k) : (PyData.tuple ds).canLay0 = true ∧ (PyData.tuple ds).depth ≤ k + 1 := by
  obtain ⟨h1, h2⟩ := lay_all h
  exact ⟨h1, Nat.succ_le_succ h2⟩
theorem lay_pair (a b : Int) : (PyData.tuple [.int a, .int b]).canLay0 = true ∧ (PyData.tuple [.int a, .int b]).depth ≤ 1 := ⟨rfl, Nat.le_refl 1⟩
theorem shaped_of {d : PyData} {k : Nat} (h : d.canLay0 = true ∧ d.depth ≤ k) (hk : k ≤ 64) : SeqAt.shaped d = true := by
  show (d.canLay0 && decide (d.depth ≤ 64)) = true
  rw [h.1, decide_eq_true (by omega)]
  rfl
theorem eqv_self {d : PyData} (h : d.canLay0 = true) : PyData.eqv d d = true := SeqAt.eqv_refl d h
section
variable {K : PySem.W.Frag} {σ : L2.St} {H H' : Hp} {ta tb te tl : TE} {t u : TT} {d e : PyData} {ds : List PyData}
theorem rv_eqD {x y : V} (hx : Dt H x d) (hy : Dt H y e) (sd : SeqAt.shaped d = true) (se : SeqAt.shaped e = true) : RV (rEqD K) x y H (.bl (PyData.eqv d e)) := fun H1 a _ q =>
  ⟨d, e, (hx.up a).dp _ _ (SeqAt.canLay_of_shaped sd), (hy.up a).dp _ _ (SeqAt.canLay_of_shaped se), sd, se, q H1 (Ex.refl H1)⟩
theorem rv_neD {x y : V} (hx : Dt H x d) (hy : Dt H y e) (sd : SeqAt.shaped d = true) (se : SeqAt.shaped e = true) : RV (rNeD K) x y H (.bl (!PyData.eqv d e)) := fun H1 a _ q =>
  ⟨d, e, (hx.up a).dp _ _ (SeqAt.canLay_of_shaped sd), (hy.up a).dp _ _ (SeqAt.canLay_of_shaped se), sd, se, q H1 (Ex.refl H1)⟩
theorem ev_eqD (h1 : EvD ta σ H d) (h2 : EvD tb σ H e) (sd : SeqAt.shaped d = true) (se : SeqAt.shaped e = true) : Ev (tOp (rEqD K) ta tb) σ H (.bl (PyData.eqv d e)) := fun H1 a Q q =>
  h1 H1 a _ fun x H2 e2 hx => h2 H2 (a.trans e2) _ fun y H3 e3 hy => rv_eqD (hx.up e3) hy sd se H3 (Ex.refl H3) Q fun H4 e4 => q H4 ((e2.trans e3).trans e4)
theorem ev_neD (h1 : EvD ta σ H d) (h2 : EvD tb σ H e) (sd : SeqAt.shaped d = true) (se : SeqAt.shaped e = true) : Ev (tOp (rNeD K) ta tb) σ H (.bl (!PyData.eqv d e)) := fun H1 a Q q =>
  h1 H1 a _ fun x H2 e2 hx => h2 H2 (a.trans e2) _ fun y H3 e3 hy => rv_neD (hx.up e3) hy sd se H3 (Ex.refl H3) Q fun H4 e4 => q H4 ((e2.trans e3).trans e4)
/-- [..] == [], [..] != [] -/
theorem eqv_nil : PyData.eqv (.list ds) (.list []) = ds.isEmpty := by
  cases ds with
  | nil => rfl
  | cons d ds => rfl
theorem ev_eqNil (h1 : EvN ta σ H ds) (sd : SeqAt.shaped (.list ds) = true) : Ev (tOp (rEqD K) ta (tLst tNil)) σ H (.bl ds.isEmpty) := by
  have h := ev_eqD (K := K) h1.ed (EvN.ed (en_lst (H := H) (σ := σ) eda_nil (by decide) rfl)) sd rfl
  rw [eqv_nil] at h
  exact h
theorem ev_neNil (h1 : EvN ta σ H ds) (sd : SeqAt.shaped (.list ds) = true) : Ev (tOp (rNeD K) ta (tLst tNil)) σ H (.bl (!ds.isEmpty)) := by
  have h := ev_neD (K := K) h1.ed (EvN.ed (en_lst (H := H) (σ := σ) eda_nil (by decide) rfl)) sd rfl
  rw [eqv_nil] at h
  exact h
theorem ev_isi {c : String} {b : Bool} {v : V} (h : Ev te σ H v) (hd : Dt H v d) (k : kitB (tyN d) c = some b) : Ev (tCB (rIsi K) (tCons te (tCons (tC (.ty c)) tNil))) σ H (.bl b) := fun H1 a Q q =>
  h H1 a _ fun H2 e2 => rIsi_of (hd.up (a.trans e2)) k (q H2 e2)
end
/-! ### loops -/
theorem s_forZ {ta : TA} {j : Nat} {lo hi : Int} {tu : TS} {D : Ends} {σ : L2.St} {H : Hp} (h : EvA ta σ H [.int lo, .int hi]) (hb : -1000000 ≤ lo ∧ lo ≤ 1000000 ∧ -1000000 ≤ hi ∧ hi ≤ 1000000) (Pv : Nat → L2.St → Hp → Prop) (h0 : ∀ H1, Ex H H1 → Pv 0 σ H1)
    (hs : ∀ (i : Nat) σ' H', lo + (i : Int) < hi → Pv i σ' H' → tu { D with nx := Pv (i + 1), ct := Pv (i + 1), bk := D.nx } (σ'.set j (some (.int (lo + (i : Int))))) H') (hd : ∀ σ' H', Pv (hi - lo).toNat σ' H' → D.nx σ' H') : tFor (iRng2 ta) (gName j) tu D σ H :=
  h H (Ex.refl H) _ fun H1 e => ⟨lo, hi, rfl, ⟨by omega, by omega, by omega, by omega⟩, for_range (lo := lo) (n := (hi - lo).toNat) Pv (h0 H1 e) (fun i σ' H' hi p => hs i σ' H' (by omega) p) hd⟩
/-! ### the fractions within bounds -/
/-- the row of the fractions with the bottom b, tops from -n on, j of them looked at; all rows to the bottom i -/
def frow (n b : Int) (j : Nat) : List PyData := sel (fun t => decide (Int.gcd (-n + (t : Int)) b = 1)) (fun t => .tuple [.int (-n + (t : Int)), .int b]) j
def frows (n : Int) : Nat → List PyData
  | 0 => []
  | i + 1 => frows n i ++ frow n (1 + (i : Int)) (2 * n + 1).toNat
theorem frows_len {n : Int} (h0 : 0 ≤ n) (h : n ≤ 60) : ∀ i : Nat, (frows n i).length ≤ 121 * i
  | 0 => Nat.le_refl 0
  | i + 1 => by
    show (frows n i ++ frow n (1 + (i : Int)) (2 * n + 1).toNat).length ≤ _
    have h1 := frows_len h0 h i
    have h2 : (frow n (1 + (i : Int)) (2 * n + 1).toNat).length ≤ (2 * n + 1).toNat := sel_len _ _ _
    rw [List.length_append]
    omega
/-! ### statements over data -/
section
variable {K : PySem.W.Frag} {σ : L2.St} {H H' : Hp} {ta tb te tl : TE} {t u : TT} {d e : PyData} {ds : List PyData} {D : Ends} {tz : TS}
theorem q_asgN {i : Nat} (h : EvN te σ H ds) (k : ∀ p H1, H p = none → Ex H H1 → AccL H1 p ds → tz D (σ.set i (some (.ref p))) H1) : tSeq (tAsg te (gName i)) tz D σ H := h H (Ex.refl H) _ k
theorem s_asgN {i : Nat} (h : EvN te σ H ds) (k : ∀ p H1, H p = none → Ex H H1 → AccL H1 p ds → D.nx (σ.set i (some (.ref p))) H1) : tAsg te (gName i) D σ H := h H (Ex.refl H) _ k
theorem q_asgD {i : Nat} (h : EvD te σ H d) (k : ∀ v H1, Ex H H1 → Dt H1 v d → tz D (σ.set i (some v)) H1) : tSeq (tAsg te (gName i)) tz D σ H := h H (Ex.refl H) _ k
theorem s_asgD {i : Nat} (h : EvD te σ H d) (k : ∀ v H1, Ex H H1 → Dt H1 v d → D.nx (σ.set i (some v)) H1) : tAsg te (gName i) D σ H := h H (Ex.refl H) _ k
theorem s_retN (h : EvN te σ H ds) (k : ∀ p H1, H p = none → Ex H H1 → AccL H1 p ds → D.rt (.ref p) H1) : tRet te D σ H := h H (Ex.refl H) _ k
theorem s_retD (h : EvD te σ H d) (k : ∀ v H1, Ex H H1 → Dt H1 v d → D.rt v H1) : tRet te D σ H := h H (Ex.refl H) _ k
end
/-! ### the layer's rules, the written part told by name -/
section
variable {X : Cx} {tg l e : Expr} {tl te : TE} {pos : Pos}
theorem pi_listK (K : PySem.W.Frag) (hl : PE X l tl) (hK : X.K = K := by rfl) : PI X tg l (iList K tl) := by
  subst hK
  exact pi_list hl
theorem pi_tupK (K : PySem.W.Frag) (hl : PE X l tl) (hK : X.K = K := by rfl) : PI X tg l (iTup K tl) := by
  subst hK
  exact pi_tup hl
theorem pe_revLK {k : Nat} {p1 p2 p3 : Pos} (K : PySem.W.Frag) (he : PE X e te) (hK : X.K = K := by rfl) : PE X (.Subscript e (.Slice none none (some (.UnaryOp .USub (.Constant (.int 1) k p1) p2)) p3) pos) (tRevL K te) := by
  subst hK
  exact pe_revL he
end
/-! ### how many turns a law takes -/
theorem turns_ok (m L : Int) (hm : 1 ≤ m) (hL : 0 ≤ L) : 1 ≤ (if (if L < m then L else m) > 1 then (if L < m then L else m) else 1) ∧ (if (if L < m then L else m) > 1 then (if L < m then L else m) else 1) ≤ m := by
  split <;> split <;> omega
theorem PoolB.dr {H : Hp} {pa : Addr} {n : Nat} {p : Addr} {o : HO} (h : PoolB H pa n) (hp : H p = none) : PoolB (upd H p o) pa n := h.up (Ex.new hp)
/-! ### sizes of drawn numbers -/
def big (i : Nat) : Int := 1000000 ^ i
theorem big_succ (i : Nat) : big (i + 1) = big i * 1000000 := Int.pow_succ 1000000 i
theorem big_pos (i : Nat) : 0 < big i := Int.pow_pos (by decide)
theorem big_le : ∀ i : Nat, i < 6 → big i ≤ 1000000000000000000000000000000 := by decide +kernel
theorem big_far {v w : Int} {i : Nat} (h0 : 0 ≤ v) (h : v < big i) (w0 : 0 ≤ w) (w1 : w < 1000000) : 0 ≤ v * 1000000 + w ∧ v * 1000000 + w < big (i + 1) := by
  rw [big_succ]
  omega
/-! ### the primes below a thousand, as the laws find them -/
def primesL : List Int := (irng 2 1000).filter fun p => ((irng 2 32).filter fun d => decide (p % d = 0) && decide (d < p)).isEmpty
theorem primesL_len : primesL.length = 168 := by decide +kernel
/-- what is_prime reckons -/
def primeB (n : Int) : Bool := decide (2 ≤ n) && decide (n < 1000) && (irng 2 32).all fun k => decide (n < k * k) || !decide (n % k = 0)
theorem primesL_prime : ∀ p ∈ primesL, primeB p = true := by decide +kernel
theorem primeB_lo {n : Int} (h : primeB n = true) : 2 ≤ n ∧ n < 1000 := by
  unfold primeB at h
  obtain ⟨h, _⟩ := Bool.and_eq_true_iff.mp h
  obtain ⟨h1, h2⟩ := Bool.and_eq_true_iff.mp h
  exact ⟨of_decide_eq_true h1, of_decide_eq_true h2⟩
theorem primesL_lo {p : Int} (h : p ∈ primesL) : 2 ≤ p ∧ p < 1000 := primeB_lo (primesL_prime p h)
theorem primesL_get {i : Nat} (h : i < 168) : ∃ p, (primesL.map V.int)[i]? = some (.int p) ∧ p ∈ primesL := by
  have h2 : i < primesL.length := by rw [primesL_len]; exact h
  refine ⟨primesL[i], ?_, List.getElem_mem h2⟩
  rw [List.getElem?_map, List.getElem?_eq_getElem h2]
  rfl
/-! ### fractions and primes as data -/
def dFrac : PyData → Bool
  | .tuple [.int t, .int b] => decide (1 ≤ b) && decide (Int.gcd t b = 1)
  | _ => false
def dPrime : PyData → Bool
  | .int n => primeB n
  | _ => false
theorem dFrac_pair {d : PyData} (h : dPair d = false) : dFrac d = false := by
  match d, h with
  | .tuple [], _ => simp [dFrac]
  | .tuple [_], _ => simp [dFrac]
  | .tuple [_, _], h => exact nomatch h
  | .tuple (_ :: _ :: _ :: _), _ => simp [dFrac]
  | .none, _ => rfl
  | .bool _, _ => rfl
  | .int _, _ => rfl
  | .str _, _ => rfl
  | .list _, _ => rfl
  | .dict _, _ => rfl
theorem dFrac_get {d : PyData} (h : dFrac d = true) : ∃ t b : Int, d = .tuple [.int t, .int b] ∧ 1 ≤ b ∧ Int.gcd t b = 1 := by
  unfold dFrac at h
  split at h
  · obtain ⟨h1, h2⟩ := Bool.and_eq_true_iff.mp h
    exact ⟨_, _, rfl, of_decide_eq_true h1, of_decide_eq_true h2⟩
  · cases h
theorem dFrac_of {t b : Int} (h1 : 1 ≤ b) (h2 : Int.gcd t b = 1) : dFrac (.tuple [.int t, .int b]) = true := by
  show (decide (1 ≤ b) && decide (Int.gcd t b = 1)) = true
  rw [decide_eq_true h1, decide_eq_true h2]
  rfl
theorem primeB_no {n k : Int} (h1 : 2 ≤ k) (h2 : k * k ≤ n) (h3 : n % k = 0) : primeB n = false := by
  cases e : primeB n with
  | false => rfl
  | true =>
    have hn := primeB_lo e
    have hk : k < 32 := by
      by_cases z : k < 32
      · exact z
      · have : 32 * 32 ≤ k * k := Int.mul_le_mul (by omega) (by omega) (by decide) (by omega)
        omega
    unfold primeB at e
    obtain ⟨_, e⟩ := Bool.and_eq_true_iff.mp e
    have e := List.all_eq_true.mp e k (irng_mem.mpr ⟨h1, hk⟩)
    rw [decide_eq_false (by omega), decide_eq_true h3] at e
    exact nomatch e
theorem primeB_yes {n k : Int} (h0 : 2 ≤ n) (h1 : n < 1000) (hk : 2 ≤ k) (h2 : n < k * k) (h3 : ∀ j : Int, 2 ≤ j → j < k → n % j ≠ 0) : primeB n = true := by
  unfold primeB
  rw [decide_eq_true h0, decide_eq_true h1, Bool.true_and, Bool.true_and]
  refine List.all_eq_true.mpr fun j hj => ?_
  obtain ⟨j0, j1⟩ := irng_mem.mp hj
  by_cases z : j < k
  · rw [decide_eq_false (h3 j j0 z)]
    exact Bool.or_true _
  · have : k * k ≤ j * j := Int.mul_le_mul (by omega) (by omega) (by omega) (by omega)
    rw [decide_eq_true (by omega)]
    rfl
/-! a prime that does not divide has nothing in common -/
theorem primeB_div {p g : Int} (hp : primeB p = true) (hg : g ∣ p) (g0 : 0 < g) : g = 1 ∨ g = p := by
  obtain ⟨lo, hi⟩ := primeB_lo hp
  obtain ⟨c, hc⟩ := hg
  have hg2 : g ≤ p := Int.le_of_dvd (by omega) ⟨c, hc⟩
  have c0 : 0 < c := by
    by_cases z : 0 < c
    · exact z
    · have : g * c ≤ g * 0 := Int.mul_le_mul_of_nonneg_left (by omega) (by omega)
      omega
  by_cases z1 : g = 1
  · exact .inl z1
  · by_cases z2 : c = 1
    · rw [z2] at hc
      exact .inr (by omega)
    · exfalso
      by_cases z : g * g ≤ p
      · have := primeB_no (k := g) (by omega) z (Int.emod_eq_zero_of_dvd ⟨c, hc⟩)
        rw [hp] at this
        cases this
      · have hcg : c ≤ g := by
          by_cases y : c ≤ g
          · exact y
          · have : g * g ≤ g * c := Int.mul_le_mul_of_nonneg_left (by omega) (by omega)
            omega
        have : c * c ≤ g * c := Int.mul_le_mul_of_nonneg_right hcg (by omega)
        have := primeB_no (k := c) (n := p) (by omega) (by omega) (Int.emod_eq_zero_of_dvd ⟨g, by rw [hc, Int.mul_comm]⟩)
        rw [hp] at this
        cases this
theorem primeB_gcd {p b : Int} (hp : primeB p = true) (h : b % p ≠ 0) : Int.gcd b p = 1 := by
  have lo := primeB_lo hp
  have h0 : Int.gcd b p ≠ 0 := fun e => by
    have := Int.gcd_dvd_right b p
    rw [e] at this
    have := Int.zero_dvd.mp this
    omega
  rcases primeB_div hp (Int.gcd_dvd_right b p) (by omega) with e | e
  · omega
  · have hd := Int.gcd_dvd_left b p
    rw [e] at hd
    exact absurd (Int.emod_eq_zero_of_dvd hd) h
theorem dvd_left_of {p a b : Int} (d : p ∣ a * b) (h : Int.gcd p b = 1) : p ∣ a := by
  rw [← Int.natAbs_dvd_natAbs] at d ⊢
  rw [Int.natAbs_mul] at d
  rw [Int.gcd_eq_natAbs_gcd_natAbs] at h
  exact Nat.Coprime.dvd_of_dvd_mul_right h d
/-! ### Euclid's rows -/
structure EInv (m n ab l fa f t ta s : Int) : Prop where
  hl : l = f * n + t * m
  ha : ab = fa * n + ta * m
  hs : f * ta - fa * t = s
  sg : s = 1 ∨ s = -1
  l0 : 0 ≤ l
  la : l < ab
  am : ab ≤ m
  f1 : 1 ≤ s * f
  fa0 : s * fa ≤ 0
theorem EInv.tot {m n ab l fa f t ta s : Int} (h : EInv m n ab l fa f t ta s) : s * f * ab + (-(s * fa)) * l = m := by
  obtain ⟨hl, ha, hs, sg, _⟩ := h
  have e1 : f * ab - fa * l = m * s := by
    rw [ha, hl]
    grind
  rcases sg with rfl | rfl
  · grind
  · grind
theorem EInv.step {m n ab l fa f t ta s : Int} (h : EInv m n ab l fa f t ta s) (hl : 0 < l) : EInv m n l (ab - ab / l * l) f (fa - ab / l * f) (ta - ab / l * t) t (-s) := by
  obtain ⟨h1, h2, h3, sg, l0, la, am, f1, fa0⟩ := h
  have e := Int.emod_add_ediv_mul ab l
  have m0 := Int.emod_nonneg ab (show l ≠ 0 by omega)
  have m1 := Int.emod_lt_of_pos ab hl
  have q1 : 1 ≤ ab / l := by
    have := Int.ediv_le_ediv hl (show l ≤ ab by omega)
    rw [Int.ediv_self (by omega)] at this
    exact this
  refine ⟨?_, h1, ?_, ?_, by omega, by omega, by omega, ?_, ?_⟩
  · generalize ab / l = q at *
    grind
  · generalize ab / l = q at *
    grind
  · rcases sg with rfl | rfl
    · exact .inr rfl
    · exact .inl rfl
  · have : 1 * 1 ≤ ab / l * (s * f) := Int.mul_le_mul q1 f1 (by decide) (by omega)
    generalize ab / l = q at *
    have e2 : -s * (fa - q * f) = -(s * fa) + q * (s * f) := by grind
    rw [e2]
    omega
  · rw [Int.neg_mul]
    omega
theorem EInv.size {m n ab l fa f t ta s : Int} (h : EInv m n ab l fa f t ta s) : f.natAbs ≤ m.natAbs ∧ (0 < l → fa.natAbs ≤ m.natAbs) := by
  have tot := h.tot
  obtain ⟨_, _, _, sg, l0, la, am, f1, fa0⟩ := h
  have a1 : s * f * 1 ≤ s * f * ab := Int.mul_le_mul_of_nonneg_left (by omega) (by omega)
  have a2 : 0 ≤ -(s * fa) * l := Int.mul_nonneg (by omega) l0
  refine ⟨?_, fun hl => ?_⟩
  · rcases sg with rfl | rfl <;> omega
  · have a3 : -(s * fa) * 1 ≤ -(s * fa) * l := Int.mul_le_mul_of_nonneg_left (by omega) (by omega)
    rcases sg with rfl | rfl <;> omega
def Row (m n k l f : Int) : Prop := ∃ ab fa t ta s : Int, EInv m n ab l fa f t ta s ∧ l ≤ k ∧ (k < ab ∨ (f = 1 ∧ fa = 0 ∧ ab = m))
theorem row_inv {p a l f : Int} (h : Row p (a % p) 1 l f) (hp : 1 < p) (hg : Int.gcd a p = 1) : l = 1 ∧ f % p * a % p = 1 := by
  obtain ⟨ab, fa, t, ta, s, I, hk, hx⟩ := h
  have tot := I.tot
  have hl0 := I.l0
  have hg2 : Int.gcd p (a % p) = 1 := by rw [gcd_step, hg]
  have l1 : l = 1 := by
    by_cases z : l = 1
    · exact z
    · exfalso
      have z : l = 0 := by omega
      subst z
      have e := I.hl
      have d : p ∣ f * (a % p) := ⟨-t, by rw [Int.mul_neg, Int.mul_comm p t]; omega⟩
      have df : p ∣ f := dvd_left_of d hg2
      obtain ⟨c, hc⟩ := df
      have f1 := I.f1
      have sfp : p ≤ s * f := by
        refine Int.le_of_dvd (by omega) ⟨s * c, ?_⟩
        rw [hc]
        grind
      rw [Int.mul_zero, Int.add_zero] at tot
      rcases hx with h | ⟨rfl, _, _⟩
      · have : s * f * 2 ≤ s * f * ab := Int.mul_le_mul_of_nonneg_left (by omega) (by omega)
        omega
      · rcases I.sg with rfl | rfl <;> omega
  refine ⟨l1, ?_⟩
  have e := I.hl
  rw [l1] at e
  have h1 : f % p * a % p = f * (a % p) % p := by
    rw [Int.mul_emod, Int.emod_emod_of_dvd f (Int.dvd_refl p), ← Int.mul_emod, Int.mul_emod f (a % p), Int.emod_emod_of_dvd a (Int.dvd_refl p), ← Int.mul_emod]
  rw [h1, show f * (a % p) = 1 + p * (-t) by rw [Int.mul_neg, Int.mul_comm p t]; omega, Int.add_mul_emod_self_left]
  exact Int.emod_eq_of_lt (by decide) hp
/-! ### the rest of a fraction by a prime -/
def restI (t b p : Int) : Int := ((irng 0 p).find? fun r => decide ((r * b - t) % p = 0)).getD 0
def restD (t b p : Int) : PyData := if b % p = 0 then .none else .int (restI t b p)
theorem restI_eq {t b p r : Int} (hg : Int.gcd b p = 1) (r0 : 0 ≤ r) (r1 : r < p) (h : (r * b - t) % p = 0) : restI t b p = r := by
  unfold restI
  cases e : (irng 0 p).find? fun r => decide ((r * b - t) % p = 0) with
  | none =>
    have := List.find?_eq_none.mp e r (irng_mem.mpr ⟨r0, r1⟩)
    rw [decide_eq_true h] at this
    exact absurd rfl this
  | some x =>
    have h1 := List.find?_some e
    have h1 : (x * b - t) % p = 0 := of_decide_eq_true h1
    obtain ⟨x0, x1⟩ := irng_mem.mp (List.mem_of_find?_eq_some e)
    have d : p ∣ (x - r) * b := by
      have d1 := Int.dvd_sub (Int.dvd_of_emod_eq_zero h1) (Int.dvd_of_emod_eq_zero h)
      have : x * b - t - (r * b - t) = (x - r) * b := by grind
      rw [this] at d1
      exact d1
    have d2 : p ∣ x - r := dvd_left_of d (by rw [Int.gcd_comm]; exact hg)
    obtain ⟨c, hc⟩ := d2
    show x = r
    rcases Int.lt_trichotomy c 0 with z | z | z
    · have : p * c ≤ p * (-1) := Int.mul_le_mul_of_nonneg_left (by omega) (by omega)
      omega
    · rw [z] at hc
      omega
    · have : p * 1 ≤ p * c := Int.mul_le_mul_of_nonneg_left (by omega) (by omega)
      omega
theorem rest_ok {t b p i : Int} (hp : primeB p = true) (hb : b % p ≠ 0) (hi : i * b % p = 1) : restD t b p = .int (t * i % p) ∧ 0 ≤ t * i % p ∧ t * i % p < p ∧ (t * i % p * b - t) % p = 0 := by
  have lo := primeB_lo hp
  have r0 := Int.emod_nonneg (t * i) (show p ≠ 0 by omega)
  have r1 := Int.emod_lt_of_pos (t * i) (show 0 < p by omega)
  have h : (t * i % p * b - t) % p = 0 := by
    have e1 := Int.emod_add_mul_ediv (t * i) p
    have e2 := Int.emod_add_mul_ediv (i * b) p
    rw [hi] at e2
    generalize t * i / p = x at e1
    generalize i * b / p = y at e2
    generalize t * i % p = r at e1
    refine Int.emod_eq_zero_of_dvd ⟨t * y - x * b, ?_⟩
    grind
  refine ⟨?_, r0, r1, h⟩
  unfold restD
  rw [if_neg hb, restI_eq (primeB_gcd hp hb) r0 r1 h]
def dI0 : PyData → Int
  | .int i => i
  | _ => 0
theorem flt_ints (f : Int → Bool) (F : PyData → Bool) (h : ∀ n, F (.int n) = f n) (g : PyData → PyData) (hg : ∀ n, g (.int n) = .int n) : ∀ ns : List Int, ((ns.map PyData.int).filter F).map g = (ns.filter f).map PyData.int
  | [] => rfl
  | n :: ns => by
    rw [List.map_cons, List.filter_cons, List.filter_cons, h]
    cases f n with
    | true => simp only [if_true, List.map_cons]; rw [flt_ints f F h g hg ns, hg]
    | false => simp only [Bool.false_eq_true, if_false]; exact flt_ints f F h g hg ns
/-! ### what is sure to be there: a number that times another leaves 1 -/
theorem bez : ∀ (n : Nat) (a b : Int), 0 ≤ b → b.toNat ≤ n → ∃ x y : Int, a * x + b * y = (Int.gcd a b : Int)
  | 0, a, b, h0, h1 => by
    have e : b = 0 := by omega
    subst e
    rw [Int.gcd_zero_right]
    rcases Int.natAbs_eq a with z | z
    · exact ⟨1, 0, by omega⟩
    · exact ⟨-1, 0, by omega⟩
  | n + 1, a, b, h0, h1 => by
    by_cases z : b = 0
    · exact bez 0 a b h0 (by omega)
    · have m0 := Int.emod_nonneg a z
      have m1 := Int.emod_lt_of_pos a (show 0 < b by omega)
      obtain ⟨x, y, e⟩ := bez n b (a % b) m0 (by omega)
      rw [gcd_step] at e
      refine ⟨y, x - a / b * y, ?_⟩
      rw [← e]
      have := Int.emod_add_mul_ediv a b
      generalize a % b = r at *
      generalize a / b = q at *
      grind
theorem inv_ex {b p : Int} (hp : 1 < p) (hg : Int.gcd b p = 1) : ∃ i : Int, i * b % p = 1 := by
  obtain ⟨x, y, e⟩ := bez p.toNat b p (by omega) (Nat.le_refl _)
  rw [hg] at e
  refine ⟨x, ?_⟩
  rw [show x * b = 1 + p * (-y) by grind, Int.add_mul_emod_self_left]
  exact Int.emod_eq_of_lt (by decide) hp
theorem restD_ok {t b p : Int} (hp : primeB p = true) (hb : b % p ≠ 0) : ∃ r : Int, restD t b p = .int r ∧ 0 ≤ r ∧ r < p ∧ (r * b - t) % p = 0 := by
  have lo := primeB_lo hp
  obtain ⟨i, hi⟩ := inv_ex (by omega) (primeB_gcd hp hb)
  obtain ⟨h1, h2, h3, h4⟩ := rest_ok (t := t) hp hb hi
  exact ⟨_, h1, h2, h3, h4⟩
theorem restD_none {t b p : Int} (hb : b % p = 0) : restD t b p = .none := by
  unfold restD
  rw [if_pos hb]
/-! ### lists of drawn primes -/
def PrL (H : Hp) (a : Addr) (m : Nat) : Prop := ∃ qs : List Int, H a = some (.lst (qs.map V.int)) ∧ qs.length ≤ m ∧ ∀ x ∈ qs, x ∈ primesL
theorem PrL.up {H H' : Hp} {a : Addr} {m : Nat} (h : PrL H a m) (e : Ex H H') : PrL H' a m := by
  obtain ⟨qs, h1, h2, h3⟩ := h
  exact ⟨qs, e _ _ h1, h2, h3⟩
theorem PrL.dr {H H' : Hp} {a B : Addr} {m : Nat} (h : PrL H a m) (n : a ≠ B) (e : ExB B H H') : PrL H' a m := by
  obtain ⟨qs, h1, h2, h3⟩ := h
  exact ⟨qs, e _ _ n h1, h2, h3⟩
theorem PrL.less {H : Hp} {a : Addr} {m k : Nat} (h : PrL H a m) (l : m ≤ k) : PrL H a k := by
  obtain ⟨qs, h1, h2, h3⟩ := h
  exact ⟨qs, h1, by omega, h3⟩
theorem PoolB.ne {H : Hp} {pa p : Addr} {n : Nat} (h : PoolB H pa n) (hp : H p = none) : p ≠ pa := fun z => by
  obtain ⟨xs, hx⟩ := h.isL
  rw [z, hx] at hp
  cases hp
theorem cut_map (qs : List Int) (lo hi : Option Int) : ∃ rs : List Int, cutV (qs.map V.int) lo hi = rs.map V.int ∧ rs.length ≤ qs.length ∧ ∀ x ∈ rs, x ∈ qs := by
  unfold cutV
  rw [← List.map_drop, ← List.map_take]
  refine ⟨_, rfl, ?_, fun x hx => List.mem_of_mem_drop (List.mem_of_mem_take hx)⟩
  rw [List.length_take, List.length_drop]
  omega
theorem atI_of {α : Type} {xs : List α} {x : Int} {v : α} (h0 : 0 ≤ x) (h : xs[x.toNat]? = some v) : atI xs x = some v := by
  have e : x = ((x.toNat : Nat) : Int) := by omega
  rw [e]
  exact atI_nat (j := x.toNat) h
/-! ### one piece of a reading at its head -/
theorem gName_app {i : Nat} {v : V} {σ : L2.St} {H : Hp} {Q : L2.St → Hp → Prop} : gName i v σ H Q = Q (σ.set i (some v)) H := rfl
theorem go_asg {te : TE} {i : Nat} {tz : TS} {D : Ends} {σ : L2.St} {H : Hp} (h : te σ H fun x H1 => tz D (σ.set i (some x)) H1) : tSeq (tAsg te (gName i)) tz D σ H := h
theorem go_asgL {te : TE} {i : Nat} {D : Ends} {σ : L2.St} {H : Hp} (h : te σ H fun x H1 => D.nx (σ.set i (some x)) H1) : tAsg te (gName i) D σ H := h
theorem go_cons {te : TE} {tr : TA} {σ : L2.St} {H : Hp} {Q : List V → Hp → Prop} (h : te σ H fun x H1 => tr σ H1 fun xs H2 => Q (x :: xs) H2) : tCons te tr σ H Q := h
theorem go_cb {te : TE} {r : List V → Hp → VK → Prop} {σ : L2.St} {H : Hp} {Q : VK} (h : te σ H fun x H1 => r [x] H1 Q) : tCB r (tCons te tNil) σ H Q := h
/-- a drawn fraction -/
def FracOk (t b : Int) : Prop := 1 ≤ b ∧ b < 1000000000000000000000000000000 ∧ t < 1000000000000000000000000000000 ∧ -1000000000000000000000000000000 < t ∧ Int.gcd t b = 1
/-! ### whole numbers below a limit, primes from 3 to 97, degrees -/
def dBelow (m : Int) : PyData → Bool
  | .int r => decide (0 ≤ r) && decide (r < m)
  | _ => false
theorem dBelow_of {m r : Int} (h0 : 0 ≤ r) (h1 : r < m) : dBelow m (.int r) = true := by
  show (decide (0 ≤ r) && decide (r < m)) = true
  rw [decide_eq_true h0, decide_eq_true h1]
  rfl
theorem dBelow_get {m : Int} {d : PyData} (h : dBelow m d = true) : ∃ r : Int, d = .int r ∧ 0 ≤ r ∧ r < m := by
  cases d with
  | int r =>
    obtain ⟨h1, h2⟩ := Bool.and_eq_true_iff.mp (show (decide (0 ≤ r) && decide (r < m)) = true from h)
    exact ⟨r, rfl, of_decide_eq_true h1, of_decide_eq_true h2⟩
  | _ => exact nomatch h
def dField : PyData → Bool
  | .int n => primeB n && decide (3 ≤ n) && decide (n ≤ 97)
  | _ => false
theorem dField_get {d : PyData} (h : dField d = true) : ∃ n : Int, d = .int n ∧ primeB n = true ∧ 3 ≤ n ∧ n ≤ 97 := by
  cases d with
  | int n =>
    obtain ⟨h1, h3⟩ := Bool.and_eq_true_iff.mp (show (primeB n && decide (3 ≤ n) && decide (n ≤ 97)) = true from h)
    obtain ⟨h1, h2⟩ := Bool.and_eq_true_iff.mp h1
    exact ⟨n, rfl, h1, of_decide_eq_true h2, of_decide_eq_true h3⟩
  | _ => exact nomatch h
def dDegs : PyData → Bool
  | .tuple [a, b] => dBelow 5 a && dBelow 5 b
  | _ => false
theorem dDegs_pair {d : PyData} (h : dPair d = false) : dDegs d = false := by
  match d, h with
  | .tuple [], _ => simp [dDegs]
  | .tuple [_], _ => simp [dDegs]
  | .tuple [_, _], h => exact nomatch h
  | .tuple (_ :: _ :: _ :: _), _ => simp [dDegs]
  | .none, _ => rfl
  | .bool _, _ => rfl
  | .int _, _ => rfl
  | .str _, _ => rfl
  | .list _, _ => rfl
  | .dict _, _ => rfl
/-- the primes from 3 to 97, as the laws write them -/
def fieldL : List Int := [3, 5, 7, 11, 13, 17, 19, 23, 29, 31, 37, 41, 43, 47, 53, 59, 61, 67, 71, 73, 79, 83, 89, 97]
theorem fieldL_ok : ∀ p ∈ fieldL, dField (.int p) = true := by decide +kernel
theorem fieldL_len : fieldL.length = 24 := rfl
theorem fieldL_get {x : Int} (h0 : 0 ≤ x) (h : x < 24) : ∃ p, atI (fieldL.map V.int) x = some (.int p) ∧ p ∈ fieldL := by
  have h2 : x.toNat < fieldL.length := by rw [fieldL_len]; omega
  refine ⟨fieldL[x.toNat], ?_, List.getElem_mem h2⟩
  refine atI_of h0 ?_
  rw [List.getElem?_map, List.getElem?_eq_getElem h2]
  rfl
/-! the primes that may divide a number up to sixty -/
def smallP : List Int := [2, 3, 5, 7, 11, 13, 17, 19, 23, 29, 31, 37, 41, 43, 47, 53, 59]
theorem smallP_hits : ∀ g : Nat, g < 61 → 1 < g → ∃ p ∈ smallP, (g : Int) % p = 0 := by decide +kernel
theorem smallP_big : ∀ p ∈ smallP, (1 : Int) < p := by decide +kernel
theorem gcd_small {t b : Int} (hb : 1 ≤ b) (hb2 : b ≤ 60) : ((smallP.filter fun p => decide (b % p = 0)).filter fun p => decide (t % p = 0)) = [] ↔ Int.gcd t b = 1 := by
  constructor
  · intro h
    have hg : (Int.gcd t b : Int) ∣ b := Int.gcd_dvd_right t b
    have ht : (Int.gcd t b : Int) ∣ t := Int.gcd_dvd_left t b
    have h1 : (Int.gcd t b : Int) ≤ b := Int.le_of_dvd (by omega) hg
    by_cases z : Int.gcd t b = 1
    · exact z
    · have h0 : Int.gcd t b ≠ 0 := fun e => by
        rw [e] at hg
        have := Int.zero_dvd.mp hg
        omega
      obtain ⟨p, hp, hd⟩ := smallP_hits (Int.gcd t b) (by omega) (by omega)
      have hd : p ∣ (Int.gcd t b : Int) := Int.dvd_of_emod_eq_zero hd
      have m : p ∈ ((smallP.filter fun p => decide (b % p = 0)).filter fun p => decide (t % p = 0)) := by
        rw [List.mem_filter, List.mem_filter]
        exact ⟨⟨hp, decide_eq_true (Int.emod_eq_zero_of_dvd (Int.dvd_trans hd hg))⟩, decide_eq_true (Int.emod_eq_zero_of_dvd (Int.dvd_trans hd ht))⟩
      rw [h] at m
      cases m
  · intro h
    apply List.eq_nil_iff_forall_not_mem.mpr
    intro p hp
    rw [List.mem_filter, List.mem_filter] at hp
    obtain ⟨⟨h1, h2⟩, h3⟩ := hp
    have d1 : p ∣ b := Int.dvd_of_emod_eq_zero (of_decide_eq_true h2)
    have d2 : p ∣ t := Int.dvd_of_emod_eq_zero (of_decide_eq_true h3)
    have d3 : p ∣ (Int.gcd t b : Int) := Int.dvd_coe_gcd d2 d1
    rw [h] at d3
    have d4 := Int.le_of_dvd (by decide) d3
    have d5 := smallP_big p h1
    omega
def topS (i : Nat) : Stmt := PySem.Challenge.pw_toldback_k08_fractions_within.main.body.getD i (.Pass ⟨0, 0, 0, 0⟩)
abbrev s_is_whole : Stmt := topS 4
abbrev N_is_whole : List Str := ["thing"]
theorem sc_is_whole : FnScope N_is_whole ["thing"] (defScope s_is_whole) := ⟨rfl, rfl, rfl, by decide +kernel, rfl, by decide +kernel, by decide +kernel⟩
abbrev s_common_divisor : Stmt := topS 5
abbrev N_common_divisor : List Str := ["one", "other"]
theorem sc_common_divisor : FnScope N_common_divisor ["one", "other"] (defScope s_common_divisor) := ⟨rfl, rfl, rfl, by decide +kernel, rfl, by decide +kernel, by decide +kernel⟩
abbrev s_is_pair : Stmt := topS 8
abbrev N_is_pair : List Str := ["thing"]
theorem sc_is_pair : FnScope N_is_pair ["thing"] (defScope s_is_pair) := ⟨rfl, rfl, rfl, by decide +kernel, rfl, by decide +kernel, by decide +kernel⟩
abbrev s_is_bounds : Stmt := topS 9
abbrev N_is_bounds : List Str := ["thing", "n", "d"]
theorem sc_is_bounds : FnScope N_is_bounds ["thing"] (defScope s_is_bounds) := ⟨rfl, rfl, rfl, by decide +kernel, rfl, by decide +kernel, by decide +kernel⟩
abbrev s_is_bounds_up_to : Stmt := topS 10
abbrev N_is_bounds_up_to : List Str := ["thing", "most"]
theorem sc_is_bounds_up_to : FnScope N_is_bounds_up_to ["thing", "most"] (defScope s_is_bounds_up_to) := ⟨rfl, rfl, rfl, by decide +kernel, rfl, by decide +kernel, by decide +kernel⟩
abbrev s_need_bounds_up_to : Stmt := topS 11
abbrev N_need_bounds_up_to : List Str := ["thing", "most"]
theorem sc_need_bounds_up_to : FnScope N_need_bounds_up_to ["thing", "most"] (defScope s_need_bounds_up_to) := ⟨rfl, rfl, rfl, by decide +kernel, rfl, by decide +kernel, by decide +kernel⟩
abbrev s_how_many_within : Stmt := topS 12
abbrev N_how_many_within : List Str := ["bounds"]
theorem sc_how_many_within : FnScope N_how_many_within ["bounds"] (defScope s_how_many_within) := ⟨rfl, rfl, rfl, by decide +kernel, rfl, by decide +kernel, by decide +kernel⟩
abbrev s_all_within : Stmt := topS 13
abbrev N_all_within : List Str := ["bounds", "n", "d", "bottom", "top"]
theorem sc_all_within : FnScope N_all_within ["bounds"] (defScope s_all_within) := ⟨rfl, rfl, rfl, by decide +kernel, rfl, by decide +kernel, by decide +kernel⟩
abbrev s__law_pool : Stmt := topS 15
abbrev N__law_pool : List Str := ["script", "k", "cell"]
theorem sc__law_pool : FnScope N__law_pool ["script", "k"] (defScope s__law_pool) := ⟨rfl, rfl, rfl, by decide +kernel, rfl, by decide +kernel, by decide +kernel⟩
abbrev s__law_take : Stmt := topS 16
abbrev N__law_take : List Str := ["pool", "many", "found", "step", "mark"]
theorem sc__law_take : FnScope N__law_take ["pool", "many"] (defScope s__law_take) := ⟨rfl, rfl, rfl, by decide +kernel, rfl, by decide +kernel, by decide +kernel⟩
abbrev s__law_due : Stmt := topS 17
abbrev N__law_due : List Str := ["bounds", "n", "d", "found", "bottom", "parts", "top", "p"]
theorem sc__law_due : FnScope N__law_due ["bounds"] (defScope s__law_due) := ⟨rfl, rfl, rfl, by decide +kernel, rfl, by decide +kernel, by decide +kernel⟩
abbrev s__law_are_wholes : Stmt := topS 18
abbrev N__law_are_wholes : List Str := ["found", "one", "part"]
theorem sc__law_are_wholes : FnScope N__law_are_wholes ["found"] (defScope s__law_are_wholes) := ⟨rfl, rfl, rfl, by decide +kernel, rfl, by decide +kernel, by decide +kernel⟩
abbrev s_law : Stmt := topS 19
abbrev N_law : List Str := ["script", "k", "pool", "bounds", "due", "again", "found", "many"]
theorem sc_law : FnScope N_law ["script"] (defScope s_law) := ⟨rfl, rfl, rfl, by decide +kernel, rfl, by decide +kernel, by decide +kernel⟩
abbrev FnP (K : PySem.W.Frag) (x : Str) (st : Stmt) (f : Addr) (fd : FuncData) : Prop := FunD K x x (defArgs st) (defBody st) (defScope st) [] [] f fd
structure Ad where
  a_is_whole : Addr
  d_is_whole : FuncData
  a_common_divisor : Addr
  d_common_divisor : FuncData
  a_is_pair : Addr
  d_is_pair : FuncData
  a_is_bounds : Addr
  d_is_bounds : FuncData
  a_is_bounds_up_to : Addr
  d_is_bounds_up_to : FuncData
  a_need_bounds_up_to : Addr
  d_need_bounds_up_to : FuncData
  a_how_many_within : Addr
  d_how_many_within : FuncData
  a_all_within : Addr
  d_all_within : FuncData
  a__law_pool : Addr
  d__law_pool : FuncData
  a__law_take : Addr
  d__law_take : FuncData
  a__law_due : Addr
  d__law_due : FuncData
  a__law_are_wholes : Addr
  d__law_are_wholes : FuncData
  a_law : Addr
  d_law : FuncData
  t_SMALL_BOUND : Tok
  k_BackError : Addr
  k_NoBounds : Addr
structure Txt (K : PySem.W.Frag) (mg : Str → Option Value) (z : Ad) : Prop where
  F_is_whole : FnP K "is_whole" s_is_whole z.a_is_whole z.d_is_whole
  g_is_whole : mg "is_whole" = some (.ref z.a_is_whole)
  b_is_whole : Binds K z.d_is_whole ["thing"] []
  F_common_divisor : FnP K "common_divisor" s_common_divisor z.a_common_divisor z.d_common_divisor
  g_common_divisor : mg "common_divisor" = some (.ref z.a_common_divisor)
  b_common_divisor : Binds K z.d_common_divisor ["one", "other"] []
  F_is_pair : FnP K "is_pair" s_is_pair z.a_is_pair z.d_is_pair
  g_is_pair : mg "is_pair" = some (.ref z.a_is_pair)
  b_is_pair : Binds K z.d_is_pair ["thing"] []
  F_is_bounds : FnP K "is_bounds" s_is_bounds z.a_is_bounds z.d_is_bounds
  g_is_bounds : mg "is_bounds" = some (.ref z.a_is_bounds)
  b_is_bounds : Binds K z.d_is_bounds ["thing"] []
  F_is_bounds_up_to : FnP K "is_bounds_up_to" s_is_bounds_up_to z.a_is_bounds_up_to z.d_is_bounds_up_to
  g_is_bounds_up_to : mg "is_bounds_up_to" = some (.ref z.a_is_bounds_up_to)
  b_is_bounds_up_to : Binds K z.d_is_bounds_up_to ["thing", "most"] []
  F_need_bounds_up_to : FnP K "need_bounds_up_to" s_need_bounds_up_to z.a_need_bounds_up_to z.d_need_bounds_up_to
  g_need_bounds_up_to : mg "need_bounds_up_to" = some (.ref z.a_need_bounds_up_to)
  b_need_bounds_up_to : Binds K z.d_need_bounds_up_to ["thing", "most"] []
  F_how_many_within : FnP K "how_many_within" s_how_many_within z.a_how_many_within z.d_how_many_within
  g_how_many_within : mg "how_many_within" = some (.ref z.a_how_many_within)
  b_how_many_within : Binds K z.d_how_many_within ["bounds"] []
  F_all_within : FnP K "all_within" s_all_within z.a_all_within z.d_all_within
  g_all_within : mg "all_within" = some (.ref z.a_all_within)
  b_all_within : Binds K z.d_all_within ["bounds"] []
  F__law_pool : FnP K "_law_pool" s__law_pool z.a__law_pool z.d__law_pool
  g__law_pool : mg "_law_pool" = some (.ref z.a__law_pool)
  b__law_pool : Binds K z.d__law_pool ["script", "k"] []
  F__law_take : FnP K "_law_take" s__law_take z.a__law_take z.d__law_take
  g__law_take : mg "_law_take" = some (.ref z.a__law_take)
  b__law_take : Binds K z.d__law_take ["pool", "many"] []
  F__law_due : FnP K "_law_due" s__law_due z.a__law_due z.d__law_due
  g__law_due : mg "_law_due" = some (.ref z.a__law_due)
  b__law_due : Binds K z.d__law_due ["bounds"] []
  F__law_are_wholes : FnP K "_law_are_wholes" s__law_are_wholes z.a__law_are_wholes z.d__law_are_wholes
  g__law_are_wholes : mg "_law_are_wholes" = some (.ref z.a__law_are_wholes)
  b__law_are_wholes : Binds K z.d__law_are_wholes ["found"] []
  F_law : FnP K "law" s_law z.a_law z.d_law
  g_law : mg "law" = some (.ref z.a_law)
  b_law : Binds K z.d_law ["script"] []
  m_isinstance : mg "isinstance" = none
  m_bool : mg "bool" = none
  m_int : mg "int" = none
  m_len : mg "len" = none
  m_tuple : mg "tuple" = none
  m_range : mg "range" = none
  m_max : mg "max" = none
  m_min : mg "min" = none
  m_list : mg "list" = none
  c_SMALL_BOUND : mg "SMALL_BOUND" = some (.int 60 z.t_SMALL_BOUND)
  k_BackError : mg "BackError" = some (.ref z.k_BackError)
  x_BackError : ExcFacts K z.k_BackError
  k_NoBounds : mg "NoBounds" = some (.ref z.k_NoBounds)
  x_NoBounds : ExcFacts K z.k_NoBounds
section
variable {P : Program} {w : World} {K : PySem.W.Frag} {mg : Str → Option Value} {base : Heap} {z : Ad}
def sp_is_whole : Sp := fun vs H Q _ => ∃ v d, vs = [v] ∧ Dt H v d ∧ Q (.bl (dWhole d)) H
theorem ok_is_whole (T : Txt K mg z) : FnOk P w K mg base CX0 1 z.a_is_whole z.d_is_whole ["thing"] (sp_is_whole) := by
  refine T.F_is_whole.ok sc_is_whole (fun vs H Q E h => ?_) (fun cdv A outer s H vs Q E hr h => ?_)
  · obtain ⟨v, d, rfl, _⟩ := h
    rfl
  · obtain ⟨v, d, rfl, hd, q⟩ := h
    refine ⟨_, (PSs.nox (pss_one (ps_ret (pe_and (pe_callB (r := rIsi K) call_isi (by rfl) T.m_isinstance (by decide +kernel) (pa_cons (pv 0) (pa_cons (pe_bltn (v := .ty "int") (by rfl) T.m_int (by decide +kernel) rfl) pa_nil))) (pe_one (pe_not (pe_callB (r := rIsi K) call_isi (by rfl) T.m_isinstance (by decide +kernel) (pa_cons (pv 0) (pa_cons (pe_bltn (v := .ty "bool") (by rfl) T.m_bool (by decide +kernel) rfl) pa_nil))))))))), ?_⟩
    refine ⟨v, rfl, _, _, _, _, _, rfl, .ty _, (hd).ty, kit_ty ( kit_int d), dInt d, rfl, ?_⟩
    cases d with
    | int i => exact itT rfl ⟨v, rfl, _, _, _, _, _, rfl, .ty _, (hd).ty, kit_ty ( kit_bool _), _, rfl, q⟩
    | bool b => exact itT rfl ⟨v, rfl, _, _, _, _, _, rfl, .ty _, (hd).ty, kit_ty ( kit_bool _), _, rfl, q⟩
    | none => exact itF rfl q
    | str x => exact itF rfl q
    | list x => exact itF rfl q
    | tuple x => exact itF rfl q
    | dict x => exact itF rfl q
def sp_common_divisor : Sp := fun vs H Q _ => ∃ a b : Int, vs = [.int a, .int b] ∧ 0 < b ∧ Q (.int (Int.gcd a b)) H
theorem ok_common_divisor (T : Txt K mg z) : FnOk P w K mg base CX0 1 z.a_common_divisor z.d_common_divisor ["one", "other"] (sp_common_divisor) := by
  refine T.F_common_divisor.ok sc_common_divisor (fun vs H Q E h => ?_) (fun cdv A outer s H vs Q E hr h => ?_)
  · obtain ⟨a, b, rfl, _⟩ := h
    rfl
  · obtain ⟨a, b, rfl, hb, q⟩ := h
    refine ⟨_, (PSs.nox (pss_cons (ps_while PassesOwn.never (pt_cmpR op_ne (pv 1) pe_int (nomark _)) (pss_one (ps_par (i := 0) (j := 1) (by rfl) sc_common_divisor.nd rfl rfl (by decide) rfl rfl (pa_cons (pv 1) (pa_cons (pe_op op_mod (pv 0) (pv 1)) pa_nil)) (by rfl))))
      (pss_one (ps_ret (pv 0))))), ?_⟩
    refine ⟨fun m σ H' => ∃ x y : Int, σ = [some (.int x), some (.int y)] ∧ H' = H ∧ 0 ≤ y ∧ (y = 0 → 0 ≤ x) ∧ Int.gcd x y = Int.gcd a b ∧ m = y.toNat, ⟨b.toNat, a, b, rfl, rfl, by omega, by omega, rfl, rfl⟩, fun m σ H' hW => ?_⟩
    obtain ⟨x, y, rfl, rfl, hy, hx, hg, rfl⟩ := hW
    refine ⟨.int y, rfl, rfl, _, rfl, it2 (fun e => ?_) (fun e => ?_)⟩
    · rw [dI] at e
      have e : y ≠ 0 := by simpa using e
      refine ⟨fun σ2 H2 => σ2 = [some (.int y), some (.int (x % y))] ∧ H2 = H', fun σ2 H2 hn => ?_, ?_⟩
      · obtain ⟨rfl, rfl⟩ := hn
        have h1 : 0 ≤ x % y := Int.emod_nonneg x e
        have h2 : x % y < y := Int.emod_lt_of_pos x (by omega)
        exact ⟨(x % y).toNat, by omega, y, x % y, rfl, rfl, h1, by omega, by rw [gcd_step, hg], rfl⟩
      · refine ⟨.int y, rfl, .int x, rfl, .int y, rfl, x, y, rfl, rfl, (show (0 : Int) < y by omega), _, _, rfl, rfl, rfl⟩
    · rw [dI] at e
      have e : y = 0 := by simpa using e
      subst e
      have h0 := hx rfl
      refine ⟨.int x, rfl, ?_⟩
      rw [← hg, Int.gcd_zero_right] at q
      rw [show x = ((x.natAbs : Nat) : Int) by omega]
      exact q
def sp_is_pair : Sp := fun vs H Q _ => ∃ v d, vs = [v] ∧ Dt H v d ∧ Q (.bl (dPair d)) H
theorem ok_is_pair (T : Txt K mg z) : FnOk P w K mg base CX0 1 z.a_is_pair z.d_is_pair ["thing"] (sp_is_pair) := by
  refine T.F_is_pair.ok sc_is_pair (fun vs H Q E h => ?_) (fun cdv A outer s H vs Q E hr h => ?_)
  · obtain ⟨v, d, rfl, _⟩ := h
    rfl
  · obtain ⟨v, d, rfl, hd, q⟩ := h
    refine ⟨_, (PSs.nox (pss_one (ps_ret (pe_and (pe_callB (r := rIsi K) call_isi (by rfl) T.m_isinstance (by decide +kernel) (pa_cons (pv 0) (pa_cons (pe_bltn (v := .ty "tuple") (by rfl) T.m_tuple (by decide +kernel) rfl) pa_nil))) (pe_one (pe_cmpR op_eq (pe_callB (r := rLenS K) call_len_seq (by rfl) T.m_len (by decide +kernel) (pa_cons (pv 0) pa_nil)) pe_int (nomark _))))))), ?_⟩
    refine ⟨v, rfl, _, _, _, _, _, rfl, .ty _, (hd).ty, kit_ty ( kit_tup d), dTup d, rfl, ?_⟩
    cases d with
    | tuple ds =>
      obtain ⟨a, xs, rfl, ha, hx⟩ := hd.tup_get
      refine itT rfl ⟨_, rfl, a, xs, rfl, .inr (.inl (.inl ha)), rfl, ?_⟩
      rw [dI, hx.len]
      have e : dPair (.tuple ds) = decide ((ds.length : Int) = 2) := by
        show decide (ds.length = 2) = _
        by_cases z : ds.length = 2
        · rw [decide_eq_true z, decide_eq_true (by omega)]
        · rw [decide_eq_false z, decide_eq_false (by omega)]
      rw [← e]
      exact q
    | int i => exact itF rfl q
    | bool b => exact itF rfl q
    | none => exact itF rfl q
    | str x => exact itF rfl q
    | list x => exact itF rfl q
    | dict x => exact itF rfl q
def sp_is_bounds : Sp := fun vs H Q _ => ∃ v d, vs = [v] ∧ Dt H v d ∧ Q (.bl (dBounds d)) H
theorem ok_is_bounds (T : Txt K mg z) : FnOk P w K mg base CX0 2 z.a_is_bounds z.d_is_bounds ["thing"] (sp_is_bounds) := by
  refine T.F_is_bounds.ok sc_is_bounds (fun vs H Q E h => ?_) (fun cdv A outer s H vs Q E hr h => ?_)
  · obtain ⟨v, d, rfl, _⟩ := h
    rfl
  · obtain ⟨v, d, rfl, hd, q⟩ := h
    refine ⟨_, (PSs.nox (pss_cons (ps_if (pt_not (pt_val (pe_call (ok_is_pair T) hr (by rfl) T.g_is_pair T.F_is_pair.kp T.b_is_pair .nil pass0 (pa_cons (pv 0) pa_nil)))) (pss_one (ps_ret pe_bl)) pss_nil)
      (pss_cons (ps_asg (pv 0) (pg_tup (by rfl) (pgs_cons (pg_name (i := 1) sc_is_bounds.nd rfl (.inl rfl)) (pgs_cons (pg_name (i := 2) sc_is_bounds.nd rfl (.inl rfl)) pgs_nil))))
      (pss_one (ps_ret (pe_and (pe_call (ok_is_whole T) hr (by rfl) T.g_is_whole T.F_is_whole.kp T.b_is_whole .nil pass0 (pa_cons (pv 1) pa_nil)) (pe_and (pe_call (ok_is_whole T) hr (by rfl) T.g_is_whole T.F_is_whole.kp T.b_is_whole .nil pass0 (pa_cons (pv 2) pa_nil)) (pe_and (pe_cmpR op_ge (pv 1) pe_int (nomark _)) (pe_one (pe_cmpR op_ge (pv 2) pe_int (nomark _))))))))))), ?_⟩
    refine ⟨v, rfl, v, d, rfl, hd, _, rfl, it2 (fun e => ?_) (fun e => ?_)⟩
    · have e : dPair d = false := by simpa using e
      rw [dBounds_pair e] at q
      exact q
    · have e : dPair d = true := by simpa using e
      obtain ⟨d1, d2, rfl⟩ := dPair_get e
      obtain ⟨a, xs, rfl, ha, hx⟩ := hd.tup_get
      cases hx with
      | @cons x1 _ _ _ h1 hx => cases hx with
        | @cons x2 _ _ _ h2 hx =>
          cases hx
          refine ⟨.ref a, rfl, a, [x1, x2], rfl, .inl (.inl ha), rfl, x1, [x2], rfl, x2, [], rfl, rfl, ?_⟩
          refine ⟨x1, rfl, x1, d1, rfl, h1, _, rfl, it2 (fun e1 => ?_) (fun e1 => ?_)⟩
          · obtain ⟨n, rfl⟩ := dWhole_get e1
            cases h1
            refine ⟨x2, rfl, x2, d2, rfl, h2, _, rfl, it2 (fun e2 => ?_) (fun e2 => ?_)⟩
            · obtain ⟨m, rfl⟩ := dWhole_get e2
              cases h2
              refine ⟨_, rfl, n, 0, rfl, rfl, _, rfl, it2 (fun e3 => ?_) (fun e3 => ?_)⟩
              · refine ⟨_, rfl, m, 1, rfl, rfl, ?_⟩
                have z : dBounds (.tuple [.int n, .int m]) = decide ((1 : Int) ≤ m) := by
                  show (decide (0 ≤ n) && decide (1 ≤ m)) = _
                  rw [e3]
                  rfl
                rw [z] at q
                exact q
              · have z : dBounds (.tuple [.int n, .int m]) = false := by
                  show (decide (0 ≤ n) && decide (1 ≤ m)) = _
                  rw [e3]
                  rfl
                rw [z] at q
                exact q
            · have z : dBounds (.tuple [.int n, d2]) = false := by
                cases d2 <;> first | rfl | exact nomatch e2
              rw [z] at q
              exact q
          · have z : dBounds (.tuple [d1, d2]) = false := by
              cases d1 <;> first | rfl | exact nomatch e1
            rw [z] at q
            exact q
def sp_is_bounds_up_to : Sp := fun vs H Q _ => ∃ v d m, vs = [v, .int m] ∧ Dt H v d ∧ Q (.bl (dBoundsTo m d)) H
theorem ok_is_bounds_up_to (T : Txt K mg z) : FnOk P w K mg base CX0 3 z.a_is_bounds_up_to z.d_is_bounds_up_to ["thing", "most"] (sp_is_bounds_up_to) := by
  refine T.F_is_bounds_up_to.ok sc_is_bounds_up_to (fun vs H Q E h => ?_) (fun cdv A outer s H vs Q E hr h => ?_)
  · obtain ⟨v, d, m, rfl, _⟩ := h
    rfl
  · obtain ⟨v, d, m, rfl, hd, q⟩ := h
    refine ⟨_, (PSs.nox (pss_one (ps_ret (pe_and (pe_call (ok_is_bounds T) hr (by rfl) T.g_is_bounds T.F_is_bounds.kp T.b_is_bounds .nil pass0 (pa_cons (pv 0) pa_nil)) (pe_and (pe_cmpR op_le (pe_ix (r := rIxT K) ix_tup (pv 0) pe_int (fun _ _ => rfl)) (pv 1) (nomark _)) (pe_one (pe_cmpR op_le (pe_ix (r := rIxT K) ix_tup (pv 0) pe_int (fun _ _ => rfl)) (pv 1) (nomark _)))))))), ?_⟩
    refine ⟨v, rfl, v, d, rfl, hd, _, rfl, it2 (fun e => ?_) (fun e => ?_)⟩
    · obtain ⟨n, k, rfl, h1, h2⟩ := dBounds_get e
      obtain ⟨a, xs, rfl, ha, hx⟩ := hd.tup_get
      have ex := DtAll.ints_eq [n, k] hx
      subst ex
      refine ⟨.ref a, rfl, a, [.int n, .int k], 0, .int n, rfl, rfl, .inl (.inl ha), rfl, .int m, rfl, n, m, rfl, rfl, _, rfl, it2 (fun e1 => ?_) (fun e1 => ?_)⟩
      · refine ⟨.ref a, rfl, a, [.int n, .int k], 1, .int k, rfl, rfl, .inl (.inl ha), rfl, .int m, rfl, k, m, rfl, rfl, ?_⟩
        have z : dBoundsTo m (.tuple [.int n, .int k]) = decide (k ≤ m) := by
          show (decide (0 ≤ n) && decide (1 ≤ k) && decide (n ≤ m) && decide (k ≤ m)) = _
          rw [decide_eq_true h1, decide_eq_true h2, e1]
          rfl
        rw [z] at q
        exact q
      · have z : dBoundsTo m (.tuple [.int n, .int k]) = false := by
          show (decide (0 ≤ n) && decide (1 ≤ k) && decide (n ≤ m) && decide (k ≤ m)) = _
          rw [decide_eq_true h1, decide_eq_true h2, e1]
          rfl
        rw [z] at q
        exact q
    · rw [dBoundsTo_no e] at q
      exact q
def sp_need_bounds_up_to : Sp := fun vs H Q _ => ∃ v d m, vs = [v, .int m] ∧ Dt H v d ∧ dBoundsTo m d = true ∧ Q .non H
theorem ok_need_bounds_up_to (T : Txt K mg z) : FnOk P w K mg base CX0 4 z.a_need_bounds_up_to z.d_need_bounds_up_to ["thing", "most"] (sp_need_bounds_up_to) := by
  refine T.F_need_bounds_up_to.ok sc_need_bounds_up_to (fun vs H Q E h => ?_) (fun cdv A outer s H vs Q E hr h => ?_)
  · obtain ⟨v, d, m, rfl, _⟩ := h
    rfl
  · obtain ⟨v, d, m, rfl, hd, e, q⟩ := h
    refine ⟨_, (PSs.nox (pss_one (ps_if (pt_not (pt_val (pe_call (ok_is_bounds_up_to T) hr (by rfl) T.g_is_bounds_up_to T.F_is_bounds_up_to.kp T.b_is_bounds_up_to .nil pass0 (pa_cons (pv 0) (pa_cons (pv 1) pa_nil))))) (pss_one (ps_never)) pss_nil))), ?_⟩
    refine ⟨v, rfl, .int m, rfl, v, d, m, rfl, hd, _, rfl, ?_⟩
    rw [e]
    exact itF rfl q
def sp_all_within : Sp := fun vs H Q _ => ∃ (v : V) (n d : Int), vs = [v] ∧ Dt H v (.tuple [.int n, .int d]) ∧ 0 ≤ n ∧ n ≤ 60 ∧ 1 ≤ d ∧ d ≤ 60 ∧
  ∀ p H', H p = none → Ex H H' → AccL H' p (frows n d.toNat) → Q (.ref p) H'
theorem ok_all_within (T : Txt K mg z) : FnOk P w K mg base CX0 5 z.a_all_within z.d_all_within ["bounds"] (sp_all_within) := by
  refine T.F_all_within.ok sc_all_within (fun vs H Q E h => ?_) (fun cdv A outer s H vs Q E hr h => ?_)
  · obtain ⟨v, n, d, rfl, _⟩ := h
    rfl
  · obtain ⟨v, n, d, rfl, hd, n0, n1, d0, d1, q⟩ := h
    have hb : dBoundsTo 60 (.tuple [.int n, .int d]) = true := by
      show (decide (0 ≤ n) && decide (1 ≤ d) && decide (n ≤ 60) && decide (d ≤ 60)) = true
      rw [decide_eq_true n0, decide_eq_true n1, decide_eq_true d0, decide_eq_true d1]
      rfl
    obtain ⟨a, xs, rfl, ha, hx⟩ := hd.tup_get
    have ex := DtAll.ints_eq [n, d] hx
    subst ex
    refine ⟨_, (PSs.nox (pss_cons (ps_expr (pe_call (ok_need_bounds_up_to T) hr (by rfl) T.g_need_bounds_up_to T.F_need_bounds_up_to.kp T.b_need_bounds_up_to .nil pass0 (pa_cons (pv 0) (pa_cons (pe_glob (v := .int 60) (by rfl) T.c_SMALL_BOUND ⟨_, rfl⟩) pa_nil))))
      (pss_cons (ps_asg (pv 0) (pg_tup (by rfl) (pgs_cons (pg_name (i := 1) sc_all_within.nd rfl (.inr rfl)) (pgs_cons (pg_name (i := 2) sc_all_within.nd rfl (.inl rfl)) pgs_nil))))
      (pss_one (ps_ret (pe_lc2 (own := [("bottom", 3), ("top", 4)]) (vs1 := [4]) (by rfl) sc_all_within.nd (pi_range2 (by rfl) T.m_range (pa_cons pe_int (pa_cons (pe_op op_add (pv 2) pe_int) pa_nil))) (blkOk_by (own := [("bottom", 3), ("top", 4)]) (N := N_all_within) (sc := (defScope s_all_within)) (by decide +kernel)) (by decide) (fun _ _ _ _ _ => (pg_name (i := 3) sc_all_within.nd rfl (.inl rfl))) (fun _ _ _ _ _ => pts_nil) (fun _ _ _ _ _ => (pi_range2 (by rfl) T.m_range (pa_cons (pe_un un_neg (pv 1)) (pa_cons (pe_op op_add (pv 1) pe_int) pa_nil)))) (fun _ _ _ _ _ => (pg_name (i := 4) sc_all_within.nd rfl (.inl rfl))) (fun _ _ _ _ _ => (pts_one (pt_cmpR op_eq (pe_call (ok_common_divisor T) (hr.mono (by decide)) (by rfl) T.g_common_divisor T.F_common_divisor.kp T.b_common_divisor .nil pass0 (pa_cons (pv 4) (pa_cons (pv 3) pa_nil))) pe_int (nomark _)))) (fun _ _ _ _ _ => (pe_tup (pa_cons (pv 4) (pa_cons (pv 3) pa_nil)))))))))), ?_⟩
    refine ⟨.ref a, rfl, .ref a, _, 60, rfl, hd, hb, ?_⟩
    refine ⟨.ref a, rfl, a, _, rfl, .inl (.inl ha), rfl, .int n, [.int d], rfl, .int d, [], rfl, rfl, ?_⟩
    refine ⟨.int d, rfl, d, 1, rfl, rfl, 1, d + 1, rfl, ⟨by decide, by decide, by omega, by omega⟩, fun D hD => ?_⟩
    refine ⟨fun i m H' => i + m = d.toNat ∧ Ex H H' ∧ AccL H' D (frows n i), ⟨d.toNat, by omega, Ex.new hD, AccL.new⟩, fun i m H1 hW => ?_⟩
    obtain ⟨em, e1, a1⟩ := hW
    by_cases hi : i < d.toNat
    · refine .inr ⟨(show i < (d + 1 - 1).toNat by omega), fun H' => Ex H H' ∧ AccL H' D (frows n (i + 1)), fun H' hN => ⟨m - 1, by omega, by omega, hN.1, hN.2⟩, fun x H' hy => ?_⟩
      obtain ⟨rfl, rfl⟩ := hy
      refine ⟨rfl, .int n, rfl, n, rfl, .int n, rfl, n, 1, rfl, rfl, -n, n + 1, rfl, ⟨by omega, by omega, by omega, by omega⟩, ?_⟩
      refine ⟨fun j k H' => j + k = (2 * n + 1).toNat ∧ Ex H H' ∧ AccL H' D (frows n i ++ frow n (1 + (i : Int)) j), ⟨(2 * n + 1).toNat, by omega, e1, ?_⟩, fun j k H2 hV => ?_⟩
      · show AccL H' D (frows n i ++ [])
        rw [List.append_nil]
        exact a1
      · obtain ⟨ek, e2, a2⟩ := hV
        by_cases hj : j < (2 * n + 1).toNat
        · refine .inr ⟨(show j < (n + 1 - -n).toNat by omega), fun H' => Ex H H' ∧ AccL H' D (frows n i ++ frow n (1 + (i : Int)) (j + 1)), fun H' hN => ⟨k - 1, by omega, by omega, hN.1, hN.2⟩, fun x H' hy => ?_⟩
          obtain ⟨rfl, rfl⟩ := hy
          refine ⟨rfl, .int (-n + (j : Int)), rfl, .int (1 + (i : Int)), rfl, -n + (j : Int), 1 + (i : Int), rfl, by omega, rfl, _, rfl, it2 (fun e => ?_) (fun e => ?_)⟩
          · rw [dI] at e
            have e : ((Int.gcd (-n + (j : Int)) (1 + (i : Int)) : Nat) : Int) = 1 := of_decide_eq_true e
            have e : decide (Int.gcd (-n + (j : Int)) (1 + (i : Int)) = 1) = true := decide_eq_true (by omega)
            refine ⟨.int (-n + (j : Int)), rfl, .int (1 + (i : Int)), rfl, sz_of (Nat.le_of_ble_eq_true rfl), fun p hp => ?_⟩
            have e3 : Ex H' (upd H' p (.tup [.int (-n + (j : Int)), .int (1 + (i : Int))])) := Ex.new hp
            obtain ⟨acc, h1, h2, h3⟩ := a2.app (v := .ref p) (d := .tuple [.int (-n + (j : Int)), .int (1 + (i : Int))]) e3 (.tup upd_same (.cons (.int _) (.cons (.int _) .nil))) rfl
            refine ⟨acc, h1, ?_, ?_, ?_⟩
            · rw [h2, List.length_append]
              have g1 := frows_len n0 n1 i
              have g2 : (frow n (1 + (i : Int)) j).length ≤ j := sel_len _ _ _
              exact sz_lt (by omega)
            · exact Ex.mut (e2.trans e3) hD
            · rw [show frow n (1 + (i : Int)) (j + 1) = frow n (1 + (i : Int)) j ++ [.tuple [.int (-n + (j : Int)), .int (1 + (i : Int))]] from sel_yes e, ← List.append_assoc]
              exact h3
          · rw [dI] at e
            have e : ¬ ((Int.gcd (-n + (j : Int)) (1 + (i : Int)) : Nat) : Int) = 1 := of_decide_eq_false e
            have e : decide (Int.gcd (-n + (j : Int)) (1 + (i : Int)) = 1) = false := decide_eq_false (by omega)
            refine ⟨e2, ?_⟩
            rw [show frow n (1 + (i : Int)) (j + 1) = frow n (1 + (i : Int)) j from sel_no e]
            exact a2
        · refine .inl ⟨(show (n + 1 - -n).toNat ≤ j by omega), e2, ?_⟩
          have ej : j = (2 * n + 1).toNat := by omega
          subst ej
          exact a2
    · refine .inl ⟨(show (d + 1 - 1).toNat ≤ i by omega), ?_⟩
      have ei : i = d.toNat := by omega
      subst ei
      exact q D H1 hD e1 a1
def sp_how_many_within : Sp := fun vs H Q _ => ∃ (v : V) (n d : Int), vs = [v] ∧ Dt H v (.tuple [.int n, .int d]) ∧ 0 ≤ n ∧ n ≤ 60 ∧ 1 ≤ d ∧ d ≤ 60 ∧
  ∀ H', Ex H H' → Q (.int ((frows n d.toNat).length : Int)) H'
theorem ok_how_many_within (T : Txt K mg z) : FnOk P w K mg base CX0 6 z.a_how_many_within z.d_how_many_within ["bounds"] (sp_how_many_within) := by
  refine T.F_how_many_within.ok sc_how_many_within (fun vs H Q E h => ?_) (fun cdv A outer s H vs Q E hr h => ?_)
  · obtain ⟨v, n, d, rfl, _⟩ := h
    rfl
  · obtain ⟨v, n, d, rfl, hd, n0, n1, d0, d1, q⟩ := h
    refine ⟨_, (PSs.nox (pss_one (ps_ret (pe_callB (r := rLenS K) call_len_seq (by rfl) T.m_len (by decide +kernel) (pa_cons (pe_call (ok_all_within T) hr (by rfl) T.g_all_within T.F_all_within.kp T.b_all_within .nil pass0 (pa_cons (pv 0) pa_nil)) pa_nil))))), ?_⟩
    refine ⟨v, rfl, v, n, d, rfl, hd, n0, n1, d0, d1, fun p H' hp e a => ?_⟩
    obtain ⟨acc, h1, h2, _⟩ := a
    refine ⟨p, acc, rfl, .inl (.inl (.inl h1)), ?_⟩
    rw [h2.len]
    exact q H' e
def sp__law_pool (K : PySem.W.Frag) : Sp := fun vs H Q _ => ∃ (sa : Addr) (ns : List Int) (k : Int), vs = [.ref sa, .int k] ∧ SqL K H sa (ns.map V.int) ∧ 0 ≤ k ∧ k < 100 ∧
  ∀ p H', H p = none → Ex H H' → PoolB H' p 1000000000 → Q (.ref p) H'
theorem ok__law_pool (T : Txt K mg z) : FnOk P w K mg base CX0 1 z.a__law_pool z.d__law_pool ["script", "k"] (sp__law_pool K) := by
  refine T.F__law_pool.ok sc__law_pool (fun vs H Q E h => ?_) (fun cdv A outer s H vs Q E hr h => ?_)
  · obtain ⟨sa, ns, k, rfl, _⟩ := h
    rfl
  · obtain ⟨sa, ns, k, rfl, hS, hk, hk2, q⟩ := h
    refine ⟨_, (PSs.nox (pss_cons (ps_set (i := 2) sc__law_pool.nd rfl (.inl rfl) pe_int)
      (pss_cons (ps_if (pt_cmpR op_lt (pv 1) (pe_callB (r := rLenS K) call_len_seq (by rfl) T.m_len (by decide +kernel) (pa_cons (pv 0) pa_nil)) (nomark _)) (pss_one (ps_set (i := 2) sc__law_pool.nd rfl (.inl rfl) (pe_ix (r := rIxL K) ix_list (pv 0) (pv 1) (fun _ _ => rfl)))) pss_nil)
      (pss_cons (ps_if (pt_cmpR op_ge (pv 2) (pe_op op_pow pe_int pe_int) (nomark _)) (pss_one (ps_ret (pe_lst (pa_cons (pe_op op_sub (pv 2) (pe_op op_pow pe_int pe_int)) (pa_cons pe_int (pa_cons pe_int pa_nil)))))) pss_nil)
      (pss_one (ps_ret (pe_lst (pa_cons (pv 2) (pa_cons pe_int (pa_cons (pe_op op_mul pe_int (pv 1)) pa_nil)))))))))), ?_⟩
    have fin : ∀ cell : Int, (tSeq (tIfS (tTest (tOp (rI0 fun i j => .bl (decide (j ≤ i))) (tVar 2) (tOp (rI CPow fun i j => .int (i ^ j.toNat)) (tC (.int 10)) (tC (.int 18))))) (tRet (tLst (tCons (tOp (rI0 fun i j => .int (i - j)) (tVar 2) (tOp (rI CPow fun i j => .int (i ^ j.toNat)) (tC (.int 10)) (tC (.int 18)))) (tCons (tC (.int 1)) (tCons (tC (.int 0)) tNil))))) tNext) (tRet (tLst (tCons (tVar 2) (tCons (tC (.int 0)) (tCons (tOp (rI CMul fun i j => .int (i * j)) (tC (.int 61)) (tVar 1)) tNil)))))) { nx := fun _ H' => Q .non H', rt := Q } [some (.ref sa), some (.int k), some (.int cell)] H := by
      intro cell
      refine ⟨.int cell, rfl, 10, 18, rfl, rfl, ⟨by decide, by decide, by decide⟩, cell, _, rfl, rfl, _, rfl, it2 (fun e => ?_) (fun e => ?_)⟩
      · refine ⟨.int cell, rfl, 10, 18, rfl, rfl, ⟨by decide, by decide, by decide⟩, cell, _, rfl, rfl, sz_of (Nat.le_of_ble_eq_true rfl), fun p hp => ?_⟩
        exact q p _ hp (Ex.new hp) ⟨_, _, _, upd_same, by decide, by decide⟩
      · refine ⟨.int cell, rfl, .int k, rfl, 61, k, rfl, rfl, .inl ⟨by decide, by decide⟩, sz_of (Nat.le_of_ble_eq_true rfl), fun p hp => ?_⟩
        exact q p _ hp (Ex.new hp) ⟨_, _, _, upd_same, by omega, by omega⟩
    refine ⟨.int k, rfl, .ref sa, rfl, sa, _, rfl, .inl hS, k, _, rfl, rfl, _, rfl, it2 (fun e => ?_) (fun e => ?_)⟩
    · have e : k < ((ns.map V.int).length : Int) := of_decide_eq_true e
      rw [List.length_map] at e
      obtain ⟨cell, g⟩ : ∃ cell, (ns.map V.int)[k.toNat]? = some (.int cell) := by
        refine ⟨ns[k.toNat]'(by omega), ?_⟩
        rw [List.getElem?_map, List.getElem?_eq_getElem (by omega)]
        rfl
      refine ⟨.ref sa, rfl, .int k, rfl, sa, _, k, .int cell, rfl, rfl, hS, ?_, fin cell⟩
      have z : k = ((k.toNat : Nat) : Int) := by omega
      rw [z]
      exact atI_nat (j := k.toNat) g
    · exact fin 0
def sp__law_take : Sp := fun vs H Q _ => ∃ (pa : Addr) (m : Int) (n : Nat), vs = [.ref pa, .int m] ∧ 0 < m ∧ m < 1099511627776 ∧ PoolB H pa (n + 1) ∧
  ∀ v H', 0 ≤ v → v < m → PoolB H' pa n → ExB pa H H' → Q (.int v) H'
theorem ok__law_take (T : Txt K mg z) : FnOk P w K mg base CX0 1 z.a__law_take z.d__law_take ["pool", "many"] (sp__law_take) := by
  refine T.F__law_take.ok sc__law_take (fun vs H Q E h => ?_) (fun cdv A outer s H vs Q E hr h => ?_)
  · obtain ⟨pa, m, n, rfl, _⟩ := h
    rfl
  · obtain ⟨pa, m, n, rfl, hm, hm2, ⟨a, b, c, hp, hc, hn⟩, q⟩ := h
    have hS : SqL K H pa [.int a, .int b, .int c] := .inl (.inl hp)
    refine ⟨_, (PSs.nox (pss_cons (ps_if (pt_cmpR op_eq (pe_ix (r := rIxL K) ix_list (pv 0) pe_int (fun _ _ => rfl)) pe_int (nomark _)) (pss_cons (ps_set (i := 2) sc__law_take.nd rfl (.inl rfl) (pe_op op_mod (pe_ix (r := rIxL K) ix_list (pv 0) pe_int (fun _ _ => rfl)) (pv 1)))
      (pss_cons (ps_asg (pe_op op_fdivW (pe_ix (r := rIxL K) ix_list (pv 0) pe_int (fun _ _ => rfl)) (pv 1)) (pg_sub (pv 0) pe_int set_list))
      (pss_one (ps_ret (pv 2))))) pss_nil)
      (pss_cons (ps_asg (pe_op op_add (pe_ix (r := rIxL K) ix_list (pv 0) pe_int (fun _ _ => rfl)) pe_int) (pg_sub (pv 0) pe_int set_list))
      (pss_cons (ps_set (i := 3) sc__law_take.nd rfl (.inl rfl) (pe_ix (r := rIxL K) ix_list (pv 0) pe_int (fun _ _ => rfl)))
      (pss_cons (ps_set (i := 4) sc__law_take.nd rfl (.inl rfl) (pe_op op_mulW (pe_op op_add (pe_op op_mod (pe_ix (r := rIxL K) ix_list (pv 0) pe_int (fun _ _ => rfl)) pe_int) pe_int) (pe_op op_add (pe_op op_mul pe_int (pv 3)) pe_int)))
      (pss_cons (ps_set (i := 4) sc__law_take.nd rfl (.inl rfl) (pe_op op_add (pv 4) (pe_op op_mulW (pe_op op_mul pe_int (pv 3)) (pv 3))))
      (pss_cons (ps_set (i := 4) sc__law_take.nd rfl (.inl rfl) (pe_op op_mod (pe_op op_mulW (pv 4) (pv 4)) pe_int))
      (pss_one (ps_ret (pe_op op_mod (pe_op op_fdivW (pe_op op_mod (pe_op op_mulW (pv 4) (pe_op op_add (pv 4) pe_int)) pe_int) pe_int) (pv 1))))))))))), ?_⟩
    refine ⟨.ref pa, rfl, pa, _, 1, .int b, rfl, rfl, hS, rfl, rfl, _, rfl, it2 (fun e => ?_) (fun e => ?_)⟩
    · refine ⟨.ref pa, rfl, pa, _, 0, .int a, rfl, rfl, hS, rfl, .int m, rfl, a, m, rfl, rfl, hm, ?_⟩
      refine ⟨.ref pa, rfl, pa, _, 0, .int a, rfl, rfl, hS, rfl, .int m, rfl, a, m, rfl, rfl, wide_div (b := 40) hm (by omega) (by decide) (by decide), ?_⟩
      refine ⟨.ref pa, rfl, pa, _, 0, 0, rfl, rfl, hp, rfl, ?_⟩
      exact ⟨_, rfl, q _ _ (Int.emod_nonneg a (by omega)) (Int.emod_lt_of_pos a hm) ⟨a / m, b, c, upd_same, hc, by omega⟩ ExB.upd⟩
    · refine ⟨.ref pa, rfl, pa, _, 2, .int c, rfl, rfl, hS, rfl, c, 1, rfl, rfl, ?_⟩
      refine ⟨.ref pa, rfl, pa, _, 2, 2, rfl, rfl, hp, rfl, ?_⟩
      generalize hH2 : upd H pa _ = H2
      have hp2 : H2 pa = some (.lst [.int a, .int b, .int (c + 1)]) := by
        rw [← hH2]
        exact upd_same
      have e2 : ExB pa H H2 := by
        rw [← hH2]
        exact ExB.upd
      have hS2 : SqL K H2 pa [.int a, .int b, .int (c + 1)] := .inl (.inl hp2)
      refine ⟨.ref pa, rfl, pa, _, 2, .int (c + 1), rfl, rfl, hS2, rfl, ?_⟩
      have m1 := Int.emod_nonneg a (show (9999999517 : Int) ≠ 0 by decide)
      have m2 := Int.emod_lt_of_pos a (show (0 : Int) < 9999999517 by decide)
      have w1 : (a % 9999999517 + 1031).natAbs < 2 ^ 40 := by omega
      have w2 : (53 * (c + 1) + 83).natAbs < 2 ^ 60 := by omega
      have w3 : (3607 * (c + 1)).natAbs < 2 ^ 60 := by omega
      have w4 : (c + 1).natAbs < 2 ^ 60 := by omega
      refine ⟨.ref pa, rfl, pa, _, 0, .int a, rfl, rfl, hS2, rfl, a, _, rfl, rfl, (show (0 : Int) < 9999999517 by decide), _, _, rfl, rfl, .int (c + 1), rfl, _, _, rfl, rfl, .inl ⟨by decide, by decide⟩, _, _, rfl, rfl, _, _, rfl, rfl, wide_mul w1 w2 (by decide) (by decide) (by decide), ?_⟩
      have w5 := wide_lt w1 w2
      try dsimp only
      generalize (a % 9999999517 + 1031) * (53 * (c + 1) + 83) = k1 at w5 ⊢
      refine ⟨.int k1, rfl, .int (c + 1), rfl, _, _, rfl, rfl, .inl ⟨by decide, by decide⟩, .int (c + 1), rfl, _, _, rfl, rfl, wide_mul w3 w4 (by decide) (by decide) (by decide), _, _, rfl, rfl, ?_⟩
      have w6 := wide_lt w3 w4
      try dsimp only
      generalize 3607 * (c + 1) * (c + 1) = k2 at w6 ⊢
      have w7 : (k1 + k2).natAbs < 2 ^ 130 := by omega
      try dsimp only
      generalize k1 + k2 = k3 at w7 ⊢
      refine ⟨.int k3, rfl, .int k3, rfl, _, _, rfl, rfl, wide_mul w7 w7 (by decide) (by decide) (by decide), _, _, rfl, rfl, (show (0 : Int) < 99999999563 by decide), ?_⟩
      have m3 := Int.emod_nonneg (k3 * k3) (show (99999999563 : Int) ≠ 0 by decide)
      have m4 := Int.emod_lt_of_pos (k3 * k3) (show (0 : Int) < 99999999563 by decide)
      try dsimp only
      generalize k3 * k3 % 99999999563 = k4 at m3 m4 ⊢
      have w8 : k4.natAbs < 2 ^ 40 := by omega
      have w9 : (k4 + 67).natAbs < 2 ^ 40 := by omega
      refine ⟨.int k4, rfl, .int k4, rfl, _, _, rfl, rfl, _, _, rfl, rfl, wide_mul w8 w9 (by decide) (by decide) (by decide), _, _, rfl, rfl, (show (0 : Int) < 99999999853 by decide), _, _, rfl, rfl, wide_div (b := 40) (by decide) (by decide) (by decide) (by decide), .int m, rfl, _, _, rfl, rfl, hm, ?_⟩
      exact q _ _ (Int.emod_nonneg _ (by omega)) (Int.emod_lt_of_pos _ hm) ⟨a, b, c + 1, hp2, by omega, by omega⟩ e2
theorem due_test {σ : L2.St} {H : Hp} {b p : Int} {i : Nat} (hb : σ[i]? = some (some (.int b))) (hp : σ[7]? = some (some (.int p))) (h0 : 0 < p) :
    EvT (tTest (tOp rEq (tOp (rI (fun _ j => 0 < j) fun i j => .int (i % j)) (tVar i) (tVar 7)) (tC (.int 0)))) σ H (decide (b % p = 0)) := by
  have h := rv_eq (H := H) (x := .int (b % p)) (y := .int 0) rfl
  rw [dI] at h
  exact et_test (ev_op (ev_op (ev_var hb) (ev_var hp) (rv_I (C := fun _ j => 0 < j) h0)) ev_c h)
theorem frow_due {n b : Int} (hb : 1 ≤ b) (hb2 : b ≤ 60) (j : Nat) : frow n b j = sel (fun t => ((smallP.filter fun p => decide (b % p = 0)).filter fun p => decide ((0 - n + (t : Int)) % p = 0)).isEmpty) (fun t => .tuple [.int (0 - n + (t : Int)), .int b]) j := by
  refine sel_congr j (fun i _ => ?_) (fun i _ => ?_)
  · rw [show 0 - n + (i : Int) = -n + (i : Int) by omega]
    have h := gcd_small (t := -n + (i : Int)) hb hb2
    by_cases z : Int.gcd (-n + (i : Int)) b = 1
    · rw [decide_eq_true z, h.mpr z]
      rfl
    · rw [decide_eq_false z]
      cases e : ((smallP.filter fun p => decide (b % p = 0)).filter fun p => decide ((-n + (i : Int)) % p = 0)) with
      | nil => exact absurd (h.mp e) z
      | cons _ _ => rfl
  · rw [show 0 - n + (i : Int) = -n + (i : Int) by omega]
def sp__law_due : Sp := fun vs H Q _ => ∃ (v : V) (n d : Int), vs = [v] ∧ Dt H v (.tuple [.int n, .int d]) ∧ 0 ≤ n ∧ n ≤ 60 ∧ 1 ≤ d ∧ d ≤ 60 ∧
  ∀ p H', H p = none → Ex H H' → AccL H' p (frows n d.toNat) → Q (.ref p) H'
theorem ok__law_due (T : Txt K mg z) : FnOk P w K mg base CX0 1 z.a__law_due z.d__law_due ["bounds"] (sp__law_due) := by
  refine T.F__law_due.ok sc__law_due (fun vs H Q E h => ?_) (fun cdv A outer s H vs Q E hr h => ?_)
  · obtain ⟨v, n, d, rfl, _⟩ := h
    rfl
  · obtain ⟨v, n, d, rfl, hd, n0, n1, d0, d1, q⟩ := h
    obtain ⟨a, xs, rfl, ha, hx⟩ := hd.tup_get
    have ex := DtAll.ints_eq [n, d] hx
    subst ex
    refine ⟨_, (PSs.nox (pss_cons (ps_asg (pv 0) (pg_tup (by rfl) (pgs_cons (pg_name (i := 1) sc__law_due.nd rfl (.inl rfl)) (pgs_cons (pg_name (i := 2) sc__law_due.nd rfl (.inl rfl)) pgs_nil))))
      (pss_cons (ps_set (i := 3) sc__law_due.nd rfl (.inl rfl) (pe_lst pa_nil))
      (pss_cons (ps_for PassesOwn.never rfl (pi_range2 (by rfl) T.m_range (pa_cons pe_int (pa_cons (pe_op op_add (pv 2) pe_int) pa_nil))) (pg_name (i := 4) sc__law_due.nd rfl (.inr rfl)) (pss_cons (ps_setLc (i := 5) (own := [("p", 7)]) (by rfl) sc__law_due.nd rfl rfl (sw_true rfl rfl rfl (by decide +kernel)) (pi_tupK K (pe_tup (pa_cons pe_int (pa_cons pe_int (pa_cons pe_int (pa_cons pe_int (pa_cons pe_int (pa_cons pe_int (pa_cons pe_int (pa_cons pe_int (pa_cons pe_int (pa_cons pe_int (pa_cons pe_int (pa_cons pe_int (pa_cons pe_int (pa_cons pe_int (pa_cons pe_int (pa_cons pe_int (pa_cons pe_int pa_nil))))))))))))))))))) (blkOk_by (own := [("p", 7)]) (N := N__law_due) (sc := (defScope s__law_due)) (by decide +kernel)) (fun _ _ _ _ _ => (pg_name (i := 7) sc__law_due.nd rfl (.inl rfl))) (fun _ _ _ _ _ => (pts_one (pt_cmpR op_eq (pe_op op_mod (pv 4) (pv 7)) pe_int (nomark _)))) (fun _ _ _ _ _ => (pv 7)))
      (pss_one (ps_for PassesOwn.never rfl (pi_range2 (by rfl) T.m_range (pa_cons (pe_op op_sub pe_int (pv 1)) (pa_cons (pe_op op_add (pv 1) pe_int) pa_nil))) (pg_name (i := 6) sc__law_due.nd rfl (.inr rfl)) (pss_one (ps_if (pt_cmpR (r := rEqD K) (op_eqD hr.units) (pe_lc (own := [("p", 7)]) (by rfl) sc__law_due.nd (pi_listK K (pv 5)) (blkOk_by (own := [("p", 7)]) (N := N__law_due) (sc := (defScope s__law_due)) (by decide +kernel)) (fun _ _ _ _ _ => (pg_name (i := 7) sc__law_due.nd rfl (.inl rfl))) (fun _ _ _ _ _ => (pts_one (pt_cmpR op_eq (pe_op op_mod (pv 6) (pv 7)) pe_int (nomark _)))) (fun _ _ _ _ _ => (pv 7))) (pe_lst pa_nil) (nomark _)) (pss_one (ps_expr (pe_bm PySem.F.plainAttrs_list PySem.F.slot_list_append PySem.F.type_list_append mt_append (pv 3) (pa_cons (pe_tup (pa_cons (pv 6) (pa_cons (pv 4) pa_nil))) pa_nil)))) pss_nil))))))
      (pss_one (ps_ret (pv 3))))))), ?_⟩
    refine ⟨.ref a, rfl, a, _, rfl, .inl (.inl ha), rfl, .int n, [.int d], rfl, .int d, [], rfl, rfl, ?_⟩
    refine ⟨Nat.zero_le _, fun F hF => ?_⟩
    -- for bottom in range(1, d + 1)
    refine s_forZ (lo := 1) (hi := d + 1) (ea_cons ev_c (ea_cons (ev_op (ev_var (v := .int d) rfl) ev_c rv_I0) ea_nil)) ⟨by omega, by omega, by omega, by omega⟩
      (fun i σ H' => (∃ y4 y5 y6, σ = [some (.ref a), some (.int n), some (.int d), some (.ref F), y4, y5, y6, none]) ∧ Ex H H' ∧ AccL H' F (frows n i)) (fun H1 e1 => ⟨⟨none, none, none, rfl⟩, (Ex.new hF).trans e1, AccL.up AccL.new e1⟩) (fun i σ H1 hi hP => ?_) (fun σ H1 hP => ?_)
    · obtain ⟨⟨y4, y5, y6, rfl⟩, e1, a1⟩ := hP
      have hb : (1 : Int) ≤ 1 + (i : Int) ∧ 1 + (i : Int) ≤ 60 := by omega
      generalize hbb : (1 : Int) + (i : Int) = b at hb hi
      -- parts = [p for p in (..) if bottom % p == 0]
      have hparts := flt_ints (fun p => decide (b % p = 0)) (fun x => decide (b % dI0 x = 0)) (fun _ => rfl) id (fun _ => rfl) smallP
      refine q_asgN (en_lcT (H := H1) (ds := smallP.map PyData.int) (fun x => decide (b % dI0 x = 0)) id ?hs (by decide) ?hw ?ht ?he ?hn) ?hk
      case hs => exact ed_tup (eda_cons (ed_int ev_c) (eda_cons (ed_int ev_c) (eda_cons (ed_int ev_c) (eda_cons (ed_int ev_c) (eda_cons (ed_int ev_c) (eda_cons (ed_int ev_c) (eda_cons (ed_int ev_c) (eda_cons (ed_int ev_c) (eda_cons (ed_int ev_c) (eda_cons (ed_int ev_c) (eda_cons (ed_int ev_c) (eda_cons (ed_int ev_c) (eda_cons (ed_int ev_c) (eda_cons (ed_int ev_c) (eda_cons (ed_int ev_c) (eda_cons (ed_int ev_c) (eda_cons (ed_int ev_c) eda_nil))))))))))))))))) (by decide)
      case hw => exact fun _ => rfl
      case ht =>
        intro H2 v d e2 hm hv
        obtain ⟨p, hp, rfl⟩ := List.mem_map.mp hm
        cases hv
        have h1 := smallP_big p hp
        exact due_test (i := 4) (b := b) (p := p) rfl rfl (by omega)
      case he => exact fun H2 v d e2 hm hv _ => ed_var rfl hv
      case hn =>
        intro d hm _
        obtain ⟨p, hp, rfl⟩ := List.mem_map.mp hm
        rfl
      case hk =>
        intro pp H2 hp2 e2 a2
        rw [hparts] at a2
        have a2' := a2
        obtain ⟨pv, hpv, hpd, _⟩ := a2
        have hpi := DtAll.ints_eq _ hpd
        subst hpi
        have n2 : F ≠ pp := fun z => by
          obtain ⟨acc, h1, _⟩ := a1
          rw [z, hp2] at h1
          cases h1
        -- for top in range(0 - n, n + 1)
        refine s_forZ (lo := 0 - n) (hi := n + 1) (ea_cons (ev_op ev_c (ev_var (v := .int n) rfl) rv_I0) (ea_cons (ev_op (ev_var (v := .int n) rfl) ev_c rv_I0) ea_nil)) ⟨by omega, by omega, by omega, by omega⟩
          (fun j σ H' => (∃ y6, σ = [some (.ref a), some (.int n), some (.int d), some (.ref F), some (.int b), some (.ref pp), y6, none]) ∧ Ex H H' ∧ H' pp = some (.lst ((smallP.filter fun p => decide (b % p = 0)).map V.int)) ∧ AccL H' F (frows n i ++ frow n b j)) (fun H3 e3 => ⟨⟨y6, ?_⟩, (e1.trans e2).trans e3, e3 _ _ hpv, ?_⟩) (fun j σ H3 hj hP => ?_) (fun σ H3 hP => ?_)
        · rfl
        · show AccL H3 F (frows n i ++ [])
          rw [List.append_nil]
          exact (a1.up e2).up e3
        · obtain ⟨⟨z6, rfl⟩, e3, hpv3, a3⟩ := hP
          have hlen : (frows n i ++ frow n b j).length < 50000 := by
            have g1 := frows_len n0 n1 i
            have g2 : (frow n b j).length ≤ j := sel_len _ _ _
            rw [List.length_append]
            omega
          generalize htt : 0 - n + (j : Int) = t at hj
          have hsel : frow n b (j + 1) = frow n b j ++ (if ((smallP.filter fun p => decide (b % p = 0)).filter fun p => decide (t % p = 0)).isEmpty = true then [.tuple [.int t, .int b]] else []) := by
            rw [frow_due hb.1 hb.2, frow_due hb.1 hb.2, ← htt]
            rfl
          have htest := flt_ints (fun p => decide (t % p = 0)) (fun x => decide (t % dI0 x = 0)) (fun _ => rfl) id (fun _ => rfl) (smallP.filter fun p => decide (b % p = 0))
          have hN : EvN (tLc (iList K (tVar 5)) (gName 7) (tTest (tOp rEq (tOp (rI (fun _ j => 0 < j) fun i j => .int (i % j)) (tVar 6) (tVar 7)) (tC (.int 0)))) (tVar 7) [7]) [some (.ref a), some (.int n), some (.int d), some (.ref F), some (.int b), some (.ref pp), some (.int t), none] H3 (((smallP.filter fun p => decide (b % p = 0)).filter fun p => decide (t % p = 0)).map PyData.int) := by
            rw [← htest]
            refine en_lcD (fun x => decide (t % dI0 x = 0)) id (ed_var (v := .ref pp) rfl (.lst hpv3 (DtAll.ints _))) ?_ (fun _ => rfl) (fun H4 v d e4 hm hv => ?_) (fun H4 v d e4 hm hv _ => ed_var rfl hv) (fun d hm _ => ?_)
            · rw [List.length_map]
              exact Nat.le_trans (List.length_filter_le _ _) (by decide)
            · obtain ⟨p, hp, rfl⟩ := List.mem_map.mp hm
              cases hv
              have h1 := smallP_big p (List.mem_filter.mp hp).1
              exact due_test (i := 6) (b := t) (p := p) rfl rfl (by omega)
            · obtain ⟨p, hp, rfl⟩ := List.mem_map.mp hm
              rfl
          have hB := ev_eqNil (K := K) hN (shaped_ints _)
          rw [show (((smallP.filter fun p => decide (b % p = 0)).filter fun p => decide (t % p = 0)).map PyData.int).isEmpty = ((smallP.filter fun p => decide (b % p = 0)).filter fun p => decide (t % p = 0)).isEmpty from by cases ((smallP.filter fun p => decide (b % p = 0)).filter fun p => decide (t % p = 0)) <;> rfl] at hB
          refine s_when (et_test hB) (fun hy H4 e4 => ?_) (fun hno H4 e4 => ?_)
          · -- found.append((top, bottom))
            have a4 := a3.up e4
            obtain ⟨acc, hacc, _⟩ := id a4
            refine ⟨.ref F, rfl, .inl ⟨rfl, acc, .inl (.inl hacc)⟩, .int t, rfl, .int b, rfl, sz_of (Nat.le_of_ble_eq_true rfl), fun p hp => ?_⟩
            have e5 : Ex H4 (upd H4 p (.tup [.int t, .int b])) := Ex.new hp
            obtain ⟨acc, h1, h2, h3⟩ := a4.app (v := .ref p) (d := .tuple [.int t, .int b]) e5 (.tup upd_same (.cons (.int _) (.cons (.int _) .nil))) rfl
            refine ⟨F, acc, .ref p, rfl, rfl, h1, sz_lt (by omega), ⟨some (.int t), rfl⟩, Ex.mut ((e3.trans e4).trans e5) hF, ?_, ?_⟩
            · rw [upd_ne (Ne.symm n2)]
              exact e5 _ _ (e4 _ _ hpv3)
            · rw [hsel, if_pos hy, ← List.append_assoc]
              exact h3
          · refine ⟨⟨some (.int t), rfl⟩, e3.trans e4, e4 _ _ hpv3, ?_⟩
            rw [hsel, hno, if_neg Bool.false_ne_true, List.append_nil]
            exact a3.up e4
        · obtain ⟨⟨z6, rfl⟩, e3, hpv3, a3⟩ := hP
          refine ⟨⟨some (.int b), some (.ref pp), z6, rfl⟩, e3, ?_⟩
          show AccL H3 F (frows n i ++ frow n (1 + (i : Int)) (2 * n + 1).toNat)
          rw [hbb, show (2 * n + 1).toNat = (n + 1 - (0 - n)).toNat by omega]
          exact a3
    · obtain ⟨⟨y4, y5, y6, rfl⟩, e1, a1⟩ := hP
      rw [show (d + 1 - 1).toNat = d.toNat by omega] at a1
      exact ⟨.ref F, rfl, q F H1 hF e1 a1⟩
/-- pairs of whole numbers -/
def dPairI (d : PyData) : Prop := ∃ a b : Int, d = .tuple [.int a, .int b]
def sp__law_are_wholes : Sp := fun vs H Q _ => ∃ (a : Addr) (ds : List PyData), vs = [.ref a] ∧ Dt H (.ref a) (.list ds) ∧ (∀ d ∈ ds, dPairI d) ∧ ∀ H', Ex H H' → Q (.bl true) H'
theorem ok__law_are_wholes (T : Txt K mg z) : FnOk P w K mg base CX0 1 z.a__law_are_wholes z.d__law_are_wholes ["found"] (sp__law_are_wholes) := by
  refine T.F__law_are_wholes.ok sc__law_are_wholes (fun vs H Q E h => ?_) (fun cdv A outer s H vs Q E hr h => ?_)
  · obtain ⟨a, ds, rfl, _⟩ := h
    rfl
  · obtain ⟨a, ds, rfl, hd, hp, q⟩ := h
    obtain ⟨a', xs, e, ha, hx⟩ := hd.lst_get
    cases e
    refine ⟨_, (PSs.nox (pss_cons (ps_for PassesOwn.never rfl (pi_listK K (pv 0)) (pg_name (i := 1) sc__law_are_wholes.nd rfl (.inl rfl)) (pss_one (ps_if (PW.pt (pw_or (pt_not (pt_val (pe_callB (r := rIsi K) call_isi (by rfl) T.m_isinstance (by decide +kernel) (pa_cons (pv 1) (pa_cons (pe_bltn (v := .ty "tuple") (by rfl) T.m_tuple (by decide +kernel) rfl) pa_nil))))) (pw_or1 (pt_cmpR (r := rNeD K) (op_neD hr.units) (pe_lc (own := [("part", 2)]) (by rfl) sc__law_are_wholes.nd (pi_tupK K (pv 1)) (blkOk_by (own := [("part", 2)]) (N := N__law_are_wholes) (sc := (defScope s__law_are_wholes)) (by decide +kernel)) (fun _ _ _ _ _ => (pg_name (i := 2) sc__law_are_wholes.nd rfl (.inl rfl))) (fun _ _ _ _ _ => (pts_one (pt_val (pe_callB (r := rIsi K) call_isi (by rfl) T.m_isinstance (by decide +kernel) (pa_cons (pv 2) (pa_cons (pe_bltn (v := .ty "bool") (by rfl) T.m_bool (by decide +kernel) rfl) pa_nil)))))) (fun _ _ _ _ _ => (pv 2))) (pe_lst pa_nil) (nomark _))))) (pss_one (ps_ret pe_bl)) pss_nil)))
      (pss_one (ps_ret pe_bl)))), ?_⟩
    refine q_forL (K := K) (H := H) (xs := xs) (ev_var (v := .ref a) rfl) (sq_of ha) (fun i σ H' => (∃ y1, σ = [some (.ref a), y1, none]) ∧ Ex H H') (fun H1 e1 => ⟨⟨none, rfl⟩, e1⟩) (fun i σ H1 _ hP => sq_of (hP.2 _ _ ha)) (fun i x σ H1 hi hP => ?_) (fun σ H1 hP => ?_)
    · obtain ⟨⟨y1, rfl⟩, e1⟩ := hP
      obtain ⟨d, hdi, hxd⟩ := hx.get i hi
      obtain ⟨m, n, rfl⟩ := hp d (List.mem_of_getElem? hdi)
      have hxd := hxd.up e1
      have hN : EvN (tLc (iTup K (tVar 1)) (gName 2) (tB (tCB (rIsi K) (tCons (tVar 2) (tCons (tC (.ty "bool")) tNil)))) (tVar 2) [2]) [some (.ref a), some x, none] H1 (([PyData.int m, PyData.int n].filter dBool).map id) := by
        refine en_lcT (H := H1) (ds := [PyData.int m, PyData.int n]) dBool id (ed_var rfl hxd) (Nat.le_of_ble_eq_true rfl) (fun _ => rfl) ?ht ?he ?hn
        case ht => exact fun H2 v d e2 hm hv => et_B (ev_isi (ev_var rfl) hv (kit_bool d))
        case he => exact fun H2 v d e2 hm hv _ => ed_var rfl hv
        case hn =>
          intro d hm _
          rcases List.mem_cons.mp hm with rfl | hm
          · rfl
          · rcases List.mem_cons.mp hm with rfl | hm
            · rfl
            · cases hm
      have hB : EvT (tOr (tNot (tB (tCB (rIsi K) (tCons (tVar 1) (tCons (tC (.ty "tuple")) tNil))))) (tTest (tOp (rNeD K) (tLc (iTup K (tVar 1)) (gName 2) (tB (tCB (rIsi K) (tCons (tVar 2) (tCons (tC (.ty "bool")) tNil)))) (tVar 2) [2]) (tLst tNil)))) [some (.ref a), some x, none] H1 false :=
        et_or (a := false) (b := false) (et_not (a := true) (et_B (ev_isi (ev_var rfl) hxd (kit_tup _)))) fun _ => et_test (ev_neNil hN rfl)
      exact s_when hB (fun z => nomatch z) (fun _ H2 e2 => ⟨⟨some x, rfl⟩, e1.trans e2⟩)
    · obtain ⟨⟨y1, rfl⟩, e1⟩ := hP
      exact q H1 e1
theorem frow_pair (n b : Int) : ∀ j : Nat, ∀ d ∈ frow n b j, dPairI d
  | 0, d, h => nomatch h
  | j + 1, d, h => by
    have h : d ∈ frow n b j ++ (if decide (Int.gcd (-n + (j : Int)) b = 1) = true then [.tuple [.int (-n + (j : Int)), .int b]] else []) := h
    rcases List.mem_append.mp h with h | h
    · exact frow_pair n b j d h
    · split at h
      · rcases List.mem_cons.mp h with h | h
        · exact ⟨_, _, h⟩
        · cases h
      · cases h
theorem frows_pair (n : Int) : ∀ i : Nat, ∀ d ∈ frows n i, dPairI d
  | 0, d, h => nomatch h
  | i + 1, d, h => by
    have h : d ∈ frows n i ++ frow n (1 + (i : Int)) (2 * n + 1).toNat := h
    rcases List.mem_append.mp h with h | h
    · exact frows_pair n i d h
    · exact frow_pair _ _ _ d h
theorem frows_lay (n : Int) (i : Nat) : (PyData.list (frows n i)).canLay0 = true ∧ (PyData.list (frows n i)).depth ≤ 2 := lay_list (k := 1) fun d hd => by
  obtain ⟨a, b, rfl⟩ := frows_pair n i d hd
  exact lay_pair a b
theorem rows_a : frows 0 60 = [.tuple [.int 0, .int 1]] := by rfl
theorem rows_b : frows 1 2 = [.tuple [.int (-1), .int 1], .tuple [.int 0, .int 1], .tuple [.int 1, .int 1], .tuple [.int (-1), .int 2], .tuple [.int 1, .int 2]] := by rfl
def sp_law (K : PySem.W.Frag) : Sp := fun vs H Q _ => ∃ (a : Addr) (ns : List Int), vs = [.ref a] ∧ SqL K H a (ns.map V.int) ∧ ∀ H', Q (.bl true) H'
theorem law_start {H : Hp} {a : Addr} {ns : List Int} (hl : ns.length ≤ 63) (ho : Only H) (hS : SqL K H a (ns.map V.int)) : sp_law K [.ref a] H (fun v _ => v = .bl true) fun _ _ _ => False := ⟨a, ns, rfl, hS, fun _ => rfl⟩
theorem ok_law (T : Txt K mg z) : FnOk P w K mg base CX0 7 z.a_law z.d_law ["script"] (sp_law K) := by
  refine T.F_law.ok sc_law (fun vs H Q E h => ?_) (fun cdv A outer s H vs Q E hr h => ?_)
  · obtain ⟨a, ns, rfl, _⟩ := h
    rfl
  · obtain ⟨a, ns, rfl, hS, q⟩ := h
    refine ⟨_, (PSs.nox (pss_cons (ps_for PassesOwn.never rfl (pi_range1 (by rfl) T.m_range (pa_cons (pe_callB (call_max2 rfl) (by rfl) T.m_max (by decide +kernel) (pa_cons pe_int (pa_cons (pe_callB (call_min2 rfl) (by rfl) T.m_min (by decide +kernel) (pa_cons pe_int (pa_cons (pe_callB (r := rLenS K) call_len_seq (by rfl) T.m_len (by decide +kernel) (pa_cons (pv 0) pa_nil)) pa_nil))) pa_nil))) pa_nil)) (pg_name (i := 1) sc_law.nd rfl (.inl rfl)) (pss_cons (ps_set (i := 2) sc_law.nd rfl (.inl rfl) (pe_call (ok__law_pool T) (hr.mono (by decide)) (by rfl) T.g__law_pool T.F__law_pool.kp T.b__law_pool .nil pass0 (pa_cons (pv 0) (pa_cons (pv 1) pa_nil))))
      (pss_cons (ps_set (i := 3) sc_law.nd rfl (.inl rfl) (pe_tup (pa_cons (pe_call (ok__law_take T) (hr.mono (by decide)) (by rfl) T.g__law_take T.F__law_take.kp T.b__law_take .nil pass0 (pa_cons (pv 2) (pa_cons pe_int pa_nil))) (pa_cons (pe_op op_add pe_int (pe_call (ok__law_take T) (hr.mono (by decide)) (by rfl) T.g__law_take T.F__law_take.kp T.b__law_take .nil pass0 (pa_cons (pv 2) (pa_cons pe_int pa_nil)))) pa_nil))))
      (pss_cut (ps_if (pt_cmpR op_eq (pe_call (ok__law_take T) (hr.mono (by decide)) (by rfl) T.g__law_take T.F__law_take.kp T.b__law_take .nil pass0 (pa_cons (pv 2) (pa_cons pe_int pa_nil))) pe_int (nomark _)) (pss_one (ps_set (i := 3) sc_law.nd rfl (.inl rfl) (pe_tup (pa_cons (pe_call (ok__law_take T) (hr.mono (by decide)) (by rfl) T.g__law_take T.F__law_take.kp T.b__law_take .nil pass0 (pa_cons (pv 2) (pa_cons pe_int pa_nil))) (pa_cons (pe_op op_add pe_int (pe_call (ok__law_take T) (hr.mono (by decide)) (by rfl) T.g__law_take T.F__law_take.kp T.b__law_take .nil pass0 (pa_cons (pv 2) (pa_cons pe_int pa_nil)))) pa_nil))))) pss_nil)
      (pss_cut (ps_if (PW.pt (pw_and (pt_cmpR op_eq (pv 1) pe_int (nomark _)) (pw_and1 (pt_cmpR op_eq (pe_call (ok__law_take T) (hr.mono (by decide)) (by rfl) T.g__law_take T.F__law_take.kp T.b__law_take .nil pass0 (pa_cons (pv 2) (pa_cons pe_int pa_nil))) pe_int (nomark _))))) (pss_one (ps_set (i := 3) sc_law.nd rfl (.inl rfl) (pe_tup (pa_cons pe_int (pa_cons pe_int pa_nil))))) pss_nil)
      (pss_cons (ps_set (i := 4) sc_law.nd rfl (.inl rfl) (pe_call (ok__law_due T) (hr.mono (by decide)) (by rfl) T.g__law_due T.F__law_due.kp T.b__law_due .nil pass0 (pa_cons (pv 3) pa_nil)))
      (pss_one (ps_for PassesOwn.never rfl (pi_range1 (by rfl) T.m_range (pa_cons pe_int pa_nil)) (pg_name (i := 5) sc_law.nd rfl (.inl rfl)) (pss_cons (ps_set (i := 6) sc_law.nd rfl (.inl rfl) (pe_call (ok_all_within T) (hr.mono (by decide)) (by rfl) T.g_all_within T.F_all_within.kp T.b_all_within .nil pass0 (pa_cons (pv 3) pa_nil)))
      (pss_cons (ps_if (PW.pt (pw_or (pt_not (pt_val (pe_callB (r := rIsi K) call_isi (by rfl) T.m_isinstance (by decide +kernel) (pa_cons (pv 6) (pa_cons (pe_bltn (v := .ty "list") (by rfl) T.m_list (by decide +kernel) rfl) pa_nil))))) (pw_or (pt_cmpR (r := rNeD K) (op_neD hr.units) (pv 6) (pv 4) (nomark _)) (pw_or1 (pt_not (pt_val (pe_call (ok__law_are_wholes T) (hr.mono (by decide)) (by rfl) T.g__law_are_wholes T.F__law_are_wholes.kp T.b__law_are_wholes .nil pass0 (pa_cons (pv 6) pa_nil)))))))) (pss_one (ps_ret pe_bl)) pss_nil)
      (pss_cons (ps_expr (pe_bm PySem.F.plainAttrs_list PySem.F.slot_list_append PySem.F.type_list_append mt_append (pv 6) (pa_cons (pe_tup (pa_cons pe_int (pa_cons pe_int pa_nil))) pa_nil)))
      (pss_cons (ps_set (i := 7) sc_law.nd rfl (.inl rfl) (pe_call (ok_how_many_within T) hr (by rfl) T.g_how_many_within T.F_how_many_within.kp T.b_how_many_within .nil pass0 (pa_cons (pv 3) pa_nil)))
      (pss_one (ps_if (PW.pt (pw_or (pt_not (pt_val (pe_callB (r := rIsi K) call_isi (by rfl) T.m_isinstance (by decide +kernel) (pa_cons (pv 7) (pa_cons (pe_bltn (v := .ty "int") (by rfl) T.m_int (by decide +kernel) rfl) pa_nil))))) (pw_or (pt_val (pe_callB (r := rIsi K) call_isi (by rfl) T.m_isinstance (by decide +kernel) (pa_cons (pv 7) (pa_cons (pe_bltn (v := .ty "bool") (by rfl) T.m_bool (by decide +kernel) rfl) pa_nil)))) (pw_or1 (pt_cmpR op_ne (pv 7) (pe_callB (r := rLenS K) call_len_seq (by rfl) T.m_len (by decide +kernel) (pa_cons (pv 4) pa_nil)) (nomark _)))))) (pss_one (ps_ret pe_bl)) pss_nil))))))))))))))
      (pss_one (ps_ret (pe_and (pe_cmpR (r := rEqD K) (op_eqD hr.units) (pe_call (ok_all_within T) (hr.mono (by decide)) (by rfl) T.g_all_within T.F_all_within.kp T.b_all_within .nil pass0 (pa_cons (pe_tup (pa_cons pe_int (pa_cons pe_int pa_nil))) pa_nil)) (pe_lst (pa_cons (pe_tup (pa_cons pe_int (pa_cons pe_int pa_nil))) pa_nil)) (nomark _)) (pe_one (pe_cmpR (r := rEqD K) (op_eqD hr.units) (pe_call (ok_all_within T) (hr.mono (by decide)) (by rfl) T.g_all_within T.F_all_within.kp T.b_all_within .nil pass0 (pa_cons (pe_tup (pa_cons pe_int (pa_cons pe_int pa_nil))) pa_nil)) (pe_lst (pa_cons (pe_tup (pa_cons (pe_un un_neg pe_int) (pa_cons pe_int pa_nil))) (pa_cons (pe_tup (pa_cons pe_int (pa_cons pe_int pa_nil))) (pa_cons (pe_tup (pa_cons pe_int (pa_cons pe_int pa_nil))) (pa_cons (pe_tup (pa_cons (pe_un un_neg pe_int) (pa_cons pe_int pa_nil))) (pa_cons (pe_tup (pa_cons pe_int (pa_cons pe_int pa_nil))) pa_nil)))))) (nomark _)))))))), ?_⟩
    obtain ⟨t1, t2⟩ := turns_ok 4 ((ns.map V.int).length : Int) (by decide) (Int.natCast_nonneg _)
    refine ⟨.ref a, rfl, a, _, rfl, .inl hS, 4, _, rfl, 1, _, rfl, _, rfl, ?_, ?_, ?_⟩
    · show -(2 ^ 62) ≤ (if (if ((ns.map V.int).length : Int) < 4 then ((ns.map V.int).length : Int) else 4) > 1 then (if ((ns.map V.int).length : Int) < 4 then ((ns.map V.int).length : Int) else 4) else 1)
      omega
    · show (if (if ((ns.map V.int).length : Int) < 4 then ((ns.map V.int).length : Int) else 4) > 1 then (if ((ns.map V.int).length : Int) < 4 then ((ns.map V.int).length : Int) else 4) else 1) < 2 ^ 62
      omega
    generalize (if (if ((ns.map V.int).length : Int) < 4 then ((ns.map V.int).length : Int) else 4) > 1 then (if ((ns.map V.int).length : Int) < 4 then ((ns.map V.int).length : Int) else 4) else 1) = J at t1 t2
    refine for_range (lo := 0) (n := J.toNat) (fun i σ H' => (∃ y1 y2 y3 y4 y5 y6 y7, σ = [some (.ref a), y1, y2, y3, y4, y5, y6, y7]) ∧ Ex H H') ⟨⟨none, none, none, none, none, none, none, rfl⟩, Ex.refl H⟩ (fun i σ H1 hi hP => ?_) (fun σ H1 hP => ?_)
    · obtain ⟨⟨y1, y2, y3, y4, y5, y6, y7, rfl⟩, e1⟩ := hP
      have hk : (0 : Int) ≤ 0 + (i : Int) ∧ 0 + (i : Int) < 100 := by omega
      generalize (0 : Int) + (i : Int) = k at hk ⊢
      -- pool = _law_pool(script, k)
      refine ⟨.ref a, rfl, .int k, rfl, a, ns, k, rfl, ex_l e1 hS, hk.1, hk.2, fun pa H2 hpa e2 pb => ?_⟩
      have hpa0 : H pa = none := fresh_back e1 hpa
      have g2 : Ex H H2 := e1.trans e2
      -- bounds = (_law_take(pool, 9), 1 + _law_take(pool, 8))
      refine ⟨.ref pa, rfl, pa, 9, 999999999, rfl, by decide, by decide, pb, fun v1 H3 l1 u1 pb3 e3 => ?_⟩
      refine ⟨.ref pa, rfl, pa, 8, 999999998, rfl, by decide, by decide, pb3, fun v2 H4 l2 u2 pb4 e4 => ?_⟩
      refine ⟨1, v2, rfl, rfl, sz_of (Nat.le_of_ble_eq_true rfl), fun t ht => ?_⟩
      have g4 : Ex H H4 := (g2.keepB hpa0 e3).keepB hpa0 e4
      have hd5 : Dt (upd H4 t (.tup [.int v1, .int (1 + v2)])) (.ref t) (.tuple [.int v1, .int (1 + v2)]) := .tup upd_same (.cons (.int _) (.cons (.int _) .nil))
      have g5 : Ex H (upd H4 t (.tup [.int v1, .int (1 + v2)])) := g4.trans (Ex.new ht)
      have pb5 := pb4.dr (o := .tup [.int v1, .int (1 + v2)]) ht
      show tCut _ _ _ [some (.ref a), some (.int k), some (.ref pa), some (.ref t), y4, y5, y6, y7] (upd H4 t (.tup [.int v1, .int (1 + v2)]))
      generalize upd H4 t (.tup [.int v1, .int (1 + v2)]) = H5 at hd5 g5 pb5
      -- if _law_take(pool, 2) == 0: bounds = (..)
      refine ⟨fun σ H' => ∃ (t : V) (n d : Int), σ = [some (.ref a), some (.int k), some (.ref pa), some t, y4, y5, y6, y7] ∧ Dt H' t (.tuple [.int n, .int d]) ∧ 0 ≤ n ∧ n ≤ 60 ∧ 1 ≤ d ∧ d ≤ 60 ∧ Ex H H' ∧ PoolB H' pa 100, ?_, fun σ H6 hM => ?_⟩
      · refine ⟨.ref pa, rfl, pa, 2, 999999997, rfl, by decide, by decide, pb5, fun v3 H6 l3 u3 pb6 e6 => ?_⟩
        have g6 := g5.keepB hpa0 e6
        refine ⟨rfl, _, rfl, it2 (fun _ => ?_) (fun _ => ?_)⟩
        · refine ⟨.ref pa, rfl, pa, 61, 999999996, rfl, by decide, by decide, pb6, fun w1 H7 m1 n1 pb7 e7 => ?_⟩
          refine ⟨.ref pa, rfl, pa, 60, 999999995, rfl, by decide, by decide, pb7, fun w2 H8 m2 n2 pb8 e8 => ?_⟩
          refine ⟨1, w2, rfl, rfl, sz_of (Nat.le_of_ble_eq_true rfl), fun t' ht' => ?_⟩
          exact ⟨.ref t', w1, 1 + w2, rfl, .tup upd_same (.cons (.int _) (.cons (.int _) .nil)), m1, by omega, by omega, by omega, ((g6.keepB hpa0 e7).keepB hpa0 e8).trans (Ex.new ht'), (pb8.dr ht').less (by decide)⟩
        · exact ⟨.ref t, v1, 1 + v2, rfl, hd5.dr pb5.isL e6 rfl, l1, by omega, by omega, by omega, g6, pb6.less (by decide)⟩
      · obtain ⟨t, n, d, rfl, hd6, n0, n1, d0, d1, g6, pb6⟩ := hM
        -- if k == 0 and _law_take(pool, 4) == 0: bounds = (60, 60)
        refine ⟨fun σ H' => ∃ (t : V) (n d : Int), σ = [some (.ref a), some (.int k), some (.ref pa), some t, y4, y5, y6, y7] ∧ Dt H' t (.tuple [.int n, .int d]) ∧ 0 ≤ n ∧ n ≤ 60 ∧ 1 ≤ d ∧ d ≤ 60 ∧ Ex H H', ?_, fun σ H7 hM => ?_⟩
        · refine ⟨.int k, rfl, rfl, _, rfl, it2 (fun _ => ?_) (fun _ => ?_)⟩
          · refine ⟨.ref pa, rfl, pa, 4, 99, rfl, by decide, by decide, pb6, fun v3 H7 l3 u3 pb7 e7 => ?_⟩
            have g7 := g6.keepB hpa0 e7
            refine ⟨rfl, _, rfl, it2 (fun _ => ?_) (fun _ => ?_)⟩
            · refine ⟨sz_of (Nat.le_of_ble_eq_true rfl), fun t' ht' => ?_⟩
              exact ⟨.ref t', 60, 60, rfl, .tup upd_same (.cons (.int _) (.cons (.int _) .nil)), by decide, by decide, by decide, by decide, g7.trans (Ex.new ht')⟩
            · exact ⟨t, n, d, rfl, hd6.dr pb6.isL e7 rfl, n0, n1, d0, d1, g7⟩
          · exact itF rfl ⟨t, n, d, rfl, hd6, n0, n1, d0, d1, g6⟩
        · obtain ⟨t, n, d, rfl, hd7, n0, n1, d0, d1, g7⟩ := hM
          -- due = _law_due(bounds)
          refine ⟨t, rfl, t, n, d, rfl, hd7, n0, n1, d0, d1, fun du H8 hdu e8 a8 => ?_⟩
          have hlay := frows_lay n d.toNat
          have hsh : SeqAt.shaped (.list (frows n d.toNat)) = true := shaped_of hlay (by decide)
          have heq : PyData.eqv (.list (frows n d.toNat)) (.list (frows n d.toNat)) = true := eqv_self hlay.1
          have hlen : (frows n d.toNat).length < 50000 := by
            have := frows_len n0 n1 d.toNat
            omega
          refine ⟨2, rfl, by decide, by decide, for_range (lo := 0) (n := 2) (fun i σ H' => (∃ y5 y6 y7, σ = [some (.ref a), some (.int k), some (.ref pa), some t, some (.ref du), y5, y6, y7]) ∧ Ex H H' ∧ Dt H' t (.tuple [.int n, .int d]) ∧ AccL H' du (frows n d.toNat)) ⟨⟨y5, y6, y7, rfl⟩, g7.trans e8, hd7.up e8, a8⟩ (fun j σ H9 hj hP => ?_) (fun σ H9 hP => ?_)⟩
          · obtain ⟨⟨z5, z6, z7, rfl⟩, g9, hd9, a9⟩ := hP
            -- found = all_within(bounds)
            refine ⟨t, rfl, t, n, d, rfl, hd9, n0, n1, d0, d1, fun fo Ha hfo ea aa => ?_⟩
            have aD := a9.up ea
            have hT : EvT (tOr (tNot (tB (tCB (rIsi K) (tCons (tVar 6) (tCons (tC (.ty "list")) tNil))))) (tOr (tTest (tOp (rNeD K) (tVar 6) (tVar 4))) (tNot (tB (tCall sp__law_are_wholes [] E0 (tCons (tVar 6) tNil)))))) [some (.ref a), some (.int k), some (.ref pa), some t, some (.ref du), some (.int (0 + (j : Int))), some (.ref fo), z7] Ha false := by
              refine et_or (a := false) (b := false) (et_not (a := true) (et_B (ev_isi (ev_var rfl) aa.dt (kit_lst _)))) fun _ => ?_
              have h := ev_neD (K := K) (H := Ha) (ed_var (i := 6) (σ := [some (.ref a), some (.int k), some (.ref pa), some t, some (.ref du), some (.int (0 + (j : Int))), some (.ref fo), z7]) rfl aa.dt) (ed_var (i := 4) rfl aD.dt) hsh hsh
              rw [heq] at h
              refine et_or (a := false) (b := false) (et_test h) fun _ => et_not (a := true) (et_B (ev_call (vs := [.ref fo]) (ea_cons (ev_var rfl) ea_nil) fun H1 e1 Q' q' E' => ⟨fo, _, rfl, (aa.up e1).dt, frows_pair n d.toNat, q'⟩))
            refine s_when hT (fun z => nomatch z) (fun _ Hb eb => ?_)
            -- found.append((0, 0))
            have ab := aa.up eb
            obtain ⟨acc, hacc, hal, _⟩ := id ab
            have hn : fo ≠ du := fun z => by
              obtain ⟨_, h1, _⟩ := a9
              rw [← z, hfo] at h1
              cases h1
            refine ⟨.ref fo, rfl, .inl ⟨rfl, acc, .inl (.inl hacc)⟩, sz_of (Nat.le_of_ble_eq_true rfl), fun p hp => ?_⟩
            have ec : Ex Hb (upd Hb p (.tup [.int 0, .int 0])) := Ex.new hp
            refine ⟨fo, acc, .ref p, rfl, rfl, ec _ _ hacc, sz_lt (by rw [hal.len]; exact Nat.lt_of_lt_of_le hlen (by decide)), ?_⟩
            have eB : ExB fo (upd Hb p (.tup [.int 0, .int 0])) (upd (upd Hb p (.tup [.int 0, .int 0])) fo (.lst (acc ++ [.ref p]))) := ExB.upd
            have hL : IsL (upd Hb p (.tup [.int 0, .int 0])) fo := ⟨acc, ec _ _ hacc⟩
            have aD2 : AccL (upd (upd Hb p (.tup [.int 0, .int 0])) fo (.lst (acc ++ [.ref p]))) du (frows n d.toNat) := by
              obtain ⟨xs, h1, h2, h3⟩ := (aD.up eb).up ec
              exact ⟨xs, eB _ _ (Ne.symm hn) h1, DtAll.monoB hL eB _ _ h3 h2, h3⟩
            have hd2 : Dt (upd (upd Hb p (.tup [.int 0, .int 0])) fo (.lst (acc ++ [.ref p]))) t (.tuple [.int n, .int d]) := (((hd9.up ea).up eb).up ec).dr hL eB rfl
            have g2 : Ex H (upd (upd Hb p (.tup [.int 0, .int 0])) fo (.lst (acc ++ [.ref p]))) := (((g9.trans ea).trans eb).trans ec).keepB (fresh_back g9 hfo) eB
            -- many = how_many_within(bounds)
            refine ⟨t, rfl, t, n, d, rfl, hd2, n0, n1, d0, d1, fun Hd ed => ?_⟩
            have aD3 := aD2.up ed
            obtain ⟨xs3, h31, h32, h33⟩ := id aD3
            refine ⟨_, rfl, _, _, _, _, _, rfl, .ty _, ((Dt.int (H := Hd) ((frows n d.toNat).length : Int))).ty, kit_ty ( kit_int _), true, rfl, itF rfl ?_⟩
            refine ⟨_, rfl, _, _, _, _, _, rfl, .ty _, ((Dt.int (H := Hd) ((frows n d.toNat).length : Int))).ty, kit_ty ( kit_bool _), false, rfl, itF rfl ?_⟩
            refine ⟨_, rfl, .ref du, rfl, du, xs3, rfl, .inl (sq_of h31), rfl, _, rfl, itF ?_ ?_⟩
            · rw [dI, h32.len, decide_eq_true rfl]
              rfl
            · exact ⟨⟨_, _, _, rfl⟩, g2.trans ed, hd2.up ed, aD3⟩
          · obtain ⟨⟨z5, z6, z7, rfl⟩, g9, _, _⟩ := hP
            exact ⟨⟨_, _, _, _, _, _, _, rfl⟩, g9⟩
    · obtain ⟨⟨y1, y2, y3, y4, y5, y6, y7, rfl⟩, e1⟩ := hP
      -- all_within((0, 60)) == [(0, 1)] and ..
      refine ⟨sz_of (Nat.le_of_ble_eq_true rfl), fun p1 hp1 => ?_⟩
      refine ⟨.ref p1, 0, 60, rfl, .tup upd_same (.cons (.int _) (.cons (.int _) .nil)), by decide, by decide, by decide, by decide, fun f1 H2 hf1 e2 a2 => ?_⟩
      have b1 : EvD (tLst (tCons (tTup (tCons (tC (.int 0)) (tCons (tC (.int 1)) tNil))) tNil)) [some (.ref a), y1, y2, y3, y4, y5, y6, y7] H2 (.list [.tuple [.int 0, .int 1]]) := EvN.ed (en_lst (eda_cons (ed_tup (eda_cons (ed_int ev_c) (eda_cons (ed_int ev_c) eda_nil)) (by decide)) eda_nil) (by decide) rfl)
      refine b1 H2 (Ex.refl H2) _ fun v3 H3 e3 d3 => ?_
      rw [show (60 : Int).toNat = 60 from rfl, rows_a] at a2
      refine ⟨_, _, (a2.dt.up e3).dp _ _ rfl, d3.dp _ _ rfl, rfl, rfl, true, rfl, itT rfl ?_⟩
      refine ⟨sz_of (Nat.le_of_ble_eq_true rfl), fun p4 hp4 => ?_⟩
      refine ⟨.ref p4, 1, 2, rfl, .tup upd_same (.cons (.int _) (.cons (.int _) .nil)), by decide, by decide, by decide, by decide, fun f4 H5 hf4 e5 a5 => ?_⟩
      have tn : ∀ {x : Int} {ta : TE} {y : Int}, Ev ta [some (.ref a), y1, y2, y3, y4, y5, y6, y7] H5 (.int x) → EvD (tTup (tCons ta (tCons (tC (.int y)) tNil))) [some (.ref a), y1, y2, y3, y4, y5, y6, y7] H5 (.tuple [.int x, .int y]) := fun h => ed_tup (eda_cons (ed_int h) (eda_cons (ed_int ev_c) eda_nil)) (Nat.le_of_ble_eq_true rfl)
      refine EvN.ed (en_lst (H := H5) (ds := [.tuple [.int (-1), .int 1], .tuple [.int 0, .int 1], .tuple [.int 1, .int 1], .tuple [.int (-1), .int 2], .tuple [.int 1, .int 2]]) (eda_cons (tn (ev_un ev_c ru_neg)) (eda_cons (tn ev_c) (eda_cons (tn ev_c) (eda_cons (tn (ev_un ev_c ru_neg)) (eda_cons (tn ev_c) eda_nil))))) (Nat.le_of_ble_eq_true rfl) rfl) H5 (Ex.refl H5) _ fun v6 H6 e6 d6 => ?_
      rw [show (2 : Int).toNat = 2 from rfl, rows_b] at a5
      refine ⟨_, _, (a5.dt.up e6).dp _ _ rfl, d6.dp _ _ rfl, rfl, rfl, ?_⟩
      exact q _
end
set_option maxHeartbeats 0
def dd_is_whole : He.DefD := ⟨("is_whole", none), "is_whole", "is_whole", defArgs s_is_whole, defBody s_is_whole, defScope s_is_whole, [], []⟩
def dd_common_divisor : He.DefD := ⟨("common_divisor", none), "common_divisor", "common_divisor", defArgs s_common_divisor, defBody s_common_divisor, defScope s_common_divisor, [], []⟩
def dd_is_pair : He.DefD := ⟨("is_pair", none), "is_pair", "is_pair", defArgs s_is_pair, defBody s_is_pair, defScope s_is_pair, [], []⟩
def dd_is_bounds : He.DefD := ⟨("is_bounds", none), "is_bounds", "is_bounds", defArgs s_is_bounds, defBody s_is_bounds, defScope s_is_bounds, [], []⟩
def dd_is_bounds_up_to : He.DefD := ⟨("is_bounds_up_to", none), "is_bounds_up_to", "is_bounds_up_to", defArgs s_is_bounds_up_to, defBody s_is_bounds_up_to, defScope s_is_bounds_up_to, [], []⟩
def dd_need_bounds_up_to : He.DefD := ⟨("need_bounds_up_to", none), "need_bounds_up_to", "need_bounds_up_to", defArgs s_need_bounds_up_to, defBody s_need_bounds_up_to, defScope s_need_bounds_up_to, [], []⟩
def dd_how_many_within : He.DefD := ⟨("how_many_within", none), "how_many_within", "how_many_within", defArgs s_how_many_within, defBody s_how_many_within, defScope s_how_many_within, [], []⟩
def dd_all_within : He.DefD := ⟨("all_within", none), "all_within", "all_within", defArgs s_all_within, defBody s_all_within, defScope s_all_within, [], []⟩
def dd__law_pool : He.DefD := ⟨("_law_pool", none), "_law_pool", "_law_pool", defArgs s__law_pool, defBody s__law_pool, defScope s__law_pool, [], []⟩
def dd__law_take : He.DefD := ⟨("_law_take", none), "_law_take", "_law_take", defArgs s__law_take, defBody s__law_take, defScope s__law_take, [], []⟩
def dd__law_due : He.DefD := ⟨("_law_due", none), "_law_due", "_law_due", defArgs s__law_due, defBody s__law_due, defScope s__law_due, [], []⟩
def dd__law_are_wholes : He.DefD := ⟨("_law_are_wholes", none), "_law_are_wholes", "_law_are_wholes", defArgs s__law_are_wholes, defBody s__law_are_wholes, defScope s__law_are_wholes, [], []⟩
def dd_law : He.DefD := ⟨("law", none), "law", "law", defArgs s_law, defBody s_law, defScope s_law, [], []⟩
def fnL : List He.DefD := [dd_is_whole, dd_common_divisor, dd_is_pair, dd_is_bounds, dd_is_bounds_up_to, dd_need_bounds_up_to, dd_how_many_within, dd_all_within, dd__law_pool, dd__law_take, dd__law_due, dd__law_are_wholes, dd_law]
def faL : List He.Fa := [.glo "is_whole", .glo "common_divisor", .glo "is_pair", .glo "is_bounds", .glo "is_bounds_up_to", .glo "need_bounds_up_to", .glo "how_many_within", .glo "all_within", .glo "_law_pool", .glo "_law_take", .glo "_law_due", .glo "_law_are_wholes", .glo "law", .free "isinstance", .free "bool", .free "int", .free "len", .free "tuple", .free "range", .free "max", .free "min", .free "list", .int "SMALL_BOUND" 60, .glo "BackError", .exc "BackError", .glo "NoBounds", .exc "NoBounds"]
abbrev RR : PySem.W.OpenRow := PySem.W.OpenLaw.row PySem.Challenge.rw_toldback_k08_fractions_within
def looseL : List PySem.Str := (["is_whole", "common_divisor", "is_pair", "is_bounds", "is_bounds_up_to", "need_bounds_up_to", "how_many_within", "all_within", "_law_pool", "_law_take", "_law_due", "_law_are_wholes", "SMALL_BOUND", "BackError", "NoBounds"] : List PySem.Str)
abbrev hk : PySem.W.Hook := He.hookD 4 faL fnL
def ob (s : PySem.W.SharedT) : He.AlD := He.obsDG 4 faL fnL (HandSHeadRun.getT s)
theorem ob_eq (s : PySem.W.SharedT) : ob s = hk.obs s.abs := He.obsDG_eq (HandSHeadRun.getT_eq s)
theorem run (w : World) : HandSHeadRun.RunEq RR (PySem.W.view RR.prog [19]) hk ob 4000 looseL w := by
  intro os
  kernel_rfl
theorem facts {P : Program} {w : World} {K : PySem.W.Frag} {h : Heap} {mg : Str → Option Value} {f : Addr} (X : K.In h) (G : h.Ns mainGlobals mg) (hfa : mg ("law" : Str) = some (.ref f)) (c : He.SaysD faL fnL K) :
    ∃ fd : FuncData, (∀ (s : Shared) (v : Value), BindsTo s fd ⟨[v], []⟩ [("script", v)]) ∧ ∀ base : Heap, K.In base → base.Ns mainGlobals mg → FnOk P w K mg base CX0 7 f fd ["script"] (sp_law K) := by
  obtain ⟨fd_is_whole, F_is_whole⟩ := c.def_ 0 (d := dd_is_whole) rfl
  obtain ⟨fd_common_divisor, F_common_divisor⟩ := c.def_ 1 (d := dd_common_divisor) rfl
  obtain ⟨fd_is_pair, F_is_pair⟩ := c.def_ 2 (d := dd_is_pair) rfl
  obtain ⟨fd_is_bounds, F_is_bounds⟩ := c.def_ 3 (d := dd_is_bounds) rfl
  obtain ⟨fd_is_bounds_up_to, F_is_bounds_up_to⟩ := c.def_ 4 (d := dd_is_bounds_up_to) rfl
  obtain ⟨fd_need_bounds_up_to, F_need_bounds_up_to⟩ := c.def_ 5 (d := dd_need_bounds_up_to) rfl
  obtain ⟨fd_how_many_within, F_how_many_within⟩ := c.def_ 6 (d := dd_how_many_within) rfl
  obtain ⟨fd_all_within, F_all_within⟩ := c.def_ 7 (d := dd_all_within) rfl
  obtain ⟨fd__law_pool, F__law_pool⟩ := c.def_ 8 (d := dd__law_pool) rfl
  obtain ⟨fd__law_take, F__law_take⟩ := c.def_ 9 (d := dd__law_take) rfl
  obtain ⟨fd__law_due, F__law_due⟩ := c.def_ 10 (d := dd__law_due) rfl
  obtain ⟨fd__law_are_wholes, F__law_are_wholes⟩ := c.def_ 11 (d := dd__law_are_wholes) rfl
  obtain ⟨fd_law, F_law⟩ := c.def_ 12 (d := dd_law) rfl
  obtain ⟨t_SMALL_BOUND, c_SMALL_BOUND⟩ := He.int_ok X G (c.fact 22 (f := .int "SMALL_BOUND" 60) rfl)
  have e := hfa.symm.trans (He.glo_ok X G (c.fact 12 (f := .glo "law") rfl))
  cases e
  have b := FunD.bindsA (ps := ["script"]) F_law fun _ _ _ _ _ _ us hl => match us, hl with | [_], _ => rfl
  have T : Txt K mg ⟨He.ga K "is_whole", fd_is_whole, He.ga K "common_divisor", fd_common_divisor, He.ga K "is_pair", fd_is_pair, He.ga K "is_bounds", fd_is_bounds, He.ga K "is_bounds_up_to", fd_is_bounds_up_to, He.ga K "need_bounds_up_to", fd_need_bounds_up_to, He.ga K "how_many_within", fd_how_many_within, He.ga K "all_within", fd_all_within, He.ga K "_law_pool", fd__law_pool, He.ga K "_law_take", fd__law_take, He.ga K "_law_due", fd__law_due, He.ga K "_law_are_wholes", fd__law_are_wholes, He.ga K "law", fd_law, t_SMALL_BOUND, He.ga K "BackError", He.ga K "NoBounds"⟩ :=
    { F_is_whole := F_is_whole,
      g_is_whole := He.glo_ok X G (c.fact 0 (f := .glo "is_whole") rfl),
      b_is_whole := F_is_whole.bindsN fun _ _ _ _ _ _ us hl => match us, hl with | [_], _ => rfl,
      F_common_divisor := F_common_divisor,
      g_common_divisor := He.glo_ok X G (c.fact 1 (f := .glo "common_divisor") rfl),
      b_common_divisor := F_common_divisor.bindsN fun _ _ _ _ _ _ us hl => match us, hl with | [_, _], _ => rfl,
      F_is_pair := F_is_pair,
      g_is_pair := He.glo_ok X G (c.fact 2 (f := .glo "is_pair") rfl),
      b_is_pair := F_is_pair.bindsN fun _ _ _ _ _ _ us hl => match us, hl with | [_], _ => rfl,
      F_is_bounds := F_is_bounds,
      g_is_bounds := He.glo_ok X G (c.fact 3 (f := .glo "is_bounds") rfl),
      b_is_bounds := F_is_bounds.bindsN fun _ _ _ _ _ _ us hl => match us, hl with | [_], _ => rfl,
      F_is_bounds_up_to := F_is_bounds_up_to,
      g_is_bounds_up_to := He.glo_ok X G (c.fact 4 (f := .glo "is_bounds_up_to") rfl),
      b_is_bounds_up_to := F_is_bounds_up_to.bindsN fun _ _ _ _ _ _ us hl => match us, hl with | [_, _], _ => rfl,
      F_need_bounds_up_to := F_need_bounds_up_to,
      g_need_bounds_up_to := He.glo_ok X G (c.fact 5 (f := .glo "need_bounds_up_to") rfl),
      b_need_bounds_up_to := F_need_bounds_up_to.bindsN fun _ _ _ _ _ _ us hl => match us, hl with | [_, _], _ => rfl,
      F_how_many_within := F_how_many_within,
      g_how_many_within := He.glo_ok X G (c.fact 6 (f := .glo "how_many_within") rfl),
      b_how_many_within := F_how_many_within.bindsN fun _ _ _ _ _ _ us hl => match us, hl with | [_], _ => rfl,
      F_all_within := F_all_within,
      g_all_within := He.glo_ok X G (c.fact 7 (f := .glo "all_within") rfl),
      b_all_within := F_all_within.bindsN fun _ _ _ _ _ _ us hl => match us, hl with | [_], _ => rfl,
      F__law_pool := F__law_pool,
      g__law_pool := He.glo_ok X G (c.fact 8 (f := .glo "_law_pool") rfl),
      b__law_pool := F__law_pool.bindsN fun _ _ _ _ _ _ us hl => match us, hl with | [_, _], _ => rfl,
      F__law_take := F__law_take,
      g__law_take := He.glo_ok X G (c.fact 9 (f := .glo "_law_take") rfl),
      b__law_take := F__law_take.bindsN fun _ _ _ _ _ _ us hl => match us, hl with | [_, _], _ => rfl,
      F__law_due := F__law_due,
      g__law_due := He.glo_ok X G (c.fact 10 (f := .glo "_law_due") rfl),
      b__law_due := F__law_due.bindsN fun _ _ _ _ _ _ us hl => match us, hl with | [_], _ => rfl,
      F__law_are_wholes := F__law_are_wholes,
      g__law_are_wholes := He.glo_ok X G (c.fact 11 (f := .glo "_law_are_wholes") rfl),
      b__law_are_wholes := F__law_are_wholes.bindsN fun _ _ _ _ _ _ us hl => match us, hl with | [_], _ => rfl,
      F_law := F_law,
      g_law := He.glo_ok X G (c.fact 12 (f := .glo "law") rfl),
      b_law := F_law.bindsN fun _ _ _ _ _ _ us hl => match us, hl with | [_], _ => rfl,
      m_isinstance := He.free_ok X G (c.fact 13 (f := .free "isinstance") rfl),
      m_bool := He.free_ok X G (c.fact 14 (f := .free "bool") rfl),
      m_int := He.free_ok X G (c.fact 15 (f := .free "int") rfl),
      m_len := He.free_ok X G (c.fact 16 (f := .free "len") rfl),
      m_tuple := He.free_ok X G (c.fact 17 (f := .free "tuple") rfl),
      m_range := He.free_ok X G (c.fact 18 (f := .free "range") rfl),
      m_max := He.free_ok X G (c.fact 19 (f := .free "max") rfl),
      m_min := He.free_ok X G (c.fact 20 (f := .free "min") rfl),
      m_list := He.free_ok X G (c.fact 21 (f := .free "list") rfl),
      c_SMALL_BOUND := c_SMALL_BOUND,
      k_BackError := He.glo_ok X G (c.fact 23 (f := .glo "BackError") rfl),
      x_BackError := excFacts_of (c.fact 24 (f := .exc "BackError") rfl),
      k_NoBounds := He.glo_ok X G (c.fact 25 (f := .glo "NoBounds") rfl),
      x_NoBounds := excFacts_of (c.fact 26 (f := .exc "NoBounds") rfl) }
  exact ⟨fd_law, fun s v => b s [v] rfl, fun base _ _ => ok_law T⟩
end TB
open PySem PySem.W PySem.Calls PyProof.Rows
set_option maxHeartbeats 0 in
theorem PySem.Challenge.cw_toldback_k08_fractions_within_holds : PySem.Challenge.rw_toldback_k08_fractions_within.Holds := by
  w_on; o_law
  refine HandSHeadRun.head_any (r := OpenLaw.row PySem.Challenge.rw_toldback_k08_fractions_within) (q := view (OpenLaw.row PySem.Challenge.rw_toldback_k08_fractions_within).prog [19]) (H := TB.hk) (ob := TB.ob) (M := 4000) (loose := TB.looseL) (d := HandSHeadRun.topDef (OpenLaw.row PySem.Challenge.rw_toldback_k08_fractions_within).prog 19) (kwd := []) TB.ob_eq
    (by kernel_rfl) (fun s => by kernel_rfl) TB.run (by kernel_rfl) (by kernel_rfl) (by kernel_rfl) (by rfl) (by first | assumption | decide +kernel) (by decide +kernel) ⟨rfl, rfl, rfl, rfl, rfl, by decide +kernel⟩ ?hw ?hc
  case hw => w_witness2
  case hc =>
    refine L2.walk_ofE (l := PySem.Challenge.rw_toldback_k08_fractions_within) (n := 63) (k := 7) (x := "script") (CX := L2.CX0) rfl (by decide) (by kernel_rfl) ⟨rfl, by decide, by decide⟩ ?F (fun _ _ _ _ z => z)
    intro w mg fa h Y G hmg0
    obtain ⟨K, KX, c⟩ := Y
    have hmg : mg ("law" : PySem.Str) = some (.ref fa) := by
      have e : (HandSHeadRun.topDef (OpenLaw.row PySem.Challenge.rw_toldback_k08_fractions_within).prog 19).name = ("law" : PySem.Str) := by kernel_rfl
      rw [← e]
      exact hmg0
    obtain ⟨fd, hb, hF⟩ := TB.facts (P := (PySem.Challenge.rw_toldback_k08_fractions_within).prog) (w := w) KX G hmg c
    exact ⟨K, fd, TB.sp_law K, KX, hb, fun H a ns hl ho hS => TB.law_start hl ho hS, hF⟩
