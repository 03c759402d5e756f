import PyProof.Rows.All
import Wide.All
import OpenK.AllK
import Wide.FinOn
import KE.KStateDown
import Lean
import HandS.Base
import HandS.Call
import HandS.List
import HandS.Comp
import HandS.Ends
import HandS.More
import HandS.Dict
import HandS.Iter
import HandS.Walk
import HandS.Text
import HandS.Words
import HandS.WordsList
import HandS.WordsExc
import HandS.Defaults
import HandS.Wide
import HandS.IsInst
import HandS.Style
import HandS.Evl
import HandS.Steps
import HandS.RaiseMore
import HandS.Head0
import HandS.Head1
import HandS.Head2
import HandS.HeadEnd
import HandS.HeadHook1
import HandS.HeadHook2
import PySem.Challenge.RW_toldback_k03_rests_of_fractions
set_option Elab.async false
set_option linter.all false
set_option maxRecDepth 100000
set_option maxHeartbeats 4000000
namespace TB
open PySem PySem.Spec PyProof.Rows L2 Evl
/-! ### heaps but for one list -/
theorem same_new {H : Hp} {p : Addr} {o : HO} (h : H p = none) : Ex H (upd H p o) := Ex.new h
/-- everything but what stands at B is as it was -/
def ExB (B : Addr) (H H' : Hp) : Prop := ∀ a o, a ≠ B → H a = some o → H' a = some o
theorem ExB.refl (B : Addr) (H : Hp) : ExB B H H := fun _ _ _ h => h
theorem ExB.trans {B : Addr} {H H1 H2 : Hp} (a : ExB B H H1) (b : ExB B H1 H2) : ExB B H H2 := fun x o n h => b x o n (a x o n h)
theorem ExB.of {B : Addr} {H H' : Hp} (e : Ex H H') : ExB B H H' := fun a o _ h => e a o h
theorem ExB.upd {B : Addr} {H : Hp} {o : HO} : ExB B H (upd H B o) := fun a u n h => by
  rw [upd_ne n]
  exact h
/-! ### data, as it stands in a heap -/
mutual
inductive Dt (H : Hp) : V → PyData → Prop
  | non : Dt H .non .none
  | bl (b : Bool) : Dt H (.bl b) (.bool b)
  | int (i : Int) : Dt H (.int i) (.int i)
  | str (x : Str) : Dt H (.str x) (.str x)
  | lst {a : Addr} {xs : List V} {ds : List PyData} : H a = some (.lst xs) → DtAll H xs ds → Dt H (.ref a) (.list ds)
  | tup {a : Addr} {xs : List V} {ds : List PyData} : H a = some (.tup xs) → DtAll H xs ds → Dt H (.ref a) (.tuple ds)
  | dic {a : Addr} {ns : List (Int × Int)} : H a = some (.dK (ns.map fun p => ((Sum.inl p.1 : Key), V.int p.2))) → Dt H (.ref a) (.dict (ns.map fun p => (PyData.int p.1, PyData.int p.2)))
inductive DtAll (H : Hp) : List V → List PyData → Prop
  | nil : DtAll H [] []
  | cons {v : V} {vs : List V} {d : PyData} {ds : List PyData} : Dt H v d → DtAll H vs ds → DtAll H (v :: vs) (d :: ds)
end
mutual
theorem Dt.mono {H H' : Hp} (e : Ex H H') : ∀ (d : PyData) (v : V), Dt H v d → Dt H' v d
  | .none, _, h => by cases h; exact .non
  | .bool b, _, h => by cases h; exact .bl b
  | .int i, _, h => by cases h; exact .int i
  | .str x, _, h => by cases h; exact .str x
  | .list ds, _, h => by
    cases h with
    | lst hs ha => exact .lst (e _ _ hs) (DtAll.mono e ds _ ha)
  | .tuple ds, _, h => by
    cases h with
    | tup hs ha => exact .tup (e _ _ hs) (DtAll.mono e ds _ ha)
  | .dict _, _, h => by
    cases h with
    | dic hs => exact .dic (e _ _ hs)
theorem DtAll.mono {H H' : Hp} (e : Ex H H') : ∀ (ds : List PyData) (vs : List V), DtAll H vs ds → DtAll H' vs ds
  | [], _, h => by cases h; exact .nil
  | d :: ds, _, h => by
    cases h with
    | cons h1 h2 => exact .cons (Dt.mono e d _ h1) (DtAll.mono e ds _ h2)
end
theorem Dt.up {H H' : Hp} {v : V} {d : PyData} (h : Dt H v d) (e : Ex H H') : Dt H' v d := Dt.mono e d v h
theorem DtAll.up {H H' : Hp} {v : List V} {d : List PyData} (h : DtAll H v d) (e : Ex H H') : DtAll H' v d := DtAll.mono e d v h
/-! data without lists in it: what is done to a list does not touch it -/
mutual
def noL : PyData → Bool
  | .list _ => false
  | .tuple ds => noLs ds
  | _ => true
def noLs : List PyData → Bool
  | [] => true
  | d :: ds => noL d && noLs ds
end
def IsL (H : Hp) (B : Addr) : Prop := ∃ xs, H B = some (.lst xs)
mutual
theorem Dt.monoB {B : Addr} {H H' : Hp} (hB : IsL H B) (e : ExB B H H') : ∀ (d : PyData) (v : V), noL d = true → Dt H v d → Dt H' v d
  | .none, _, _, h => by cases h; exact .non
  | .bool b, _, _, h => by cases h; exact .bl b
  | .int i, _, _, h => by cases h; exact .int i
  | .str x, _, _, h => by cases h; exact .str x
  | .list ds, _, n, h => nomatch n
  | .tuple ds, _, n, h => by
    cases h with
    | @tup a _ _ hs ha =>
      refine .tup (e a _ (fun z => ?_) hs) (DtAll.monoB hB e ds _ n ha)
      obtain ⟨xs, hx⟩ := hB
      rw [z, hx] at hs
      cases hs
  | .dict _, _, _, h => by
    cases h with
    | @dic a _ hs =>
      refine .dic (e a _ (fun z => ?_) hs)
      obtain ⟨xs, hx⟩ := hB
      rw [z, hx] at hs
      cases hs
theorem DtAll.monoB {B : Addr} {H H' : Hp} (hB : IsL H B) (e : ExB B H H') : ∀ (ds : List PyData) (vs : List V), noLs ds = true → DtAll H vs ds → DtAll H' vs ds
  | [], _, _, h => by cases h; exact .nil
  | d :: ds, _, n, h => by
    obtain ⟨n1, n2⟩ := Bool.and_eq_true_iff.mp (show (noL d && noLs ds) = true from n)
    cases h with
    | cons h1 h2 => exact .cons (Dt.monoB hB e d _ n1 h1) (DtAll.monoB hB e ds _ n2 h2)
end
theorem noLs_of {ds : List PyData} (h : ∀ d ∈ ds, noL d = true) : noLs ds = true := by
  induction ds with
  | nil => rfl
  | cons d ds ih =>
    show (noL d && noLs ds) = true
    rw [h d (List.mem_cons_self), ih fun x hx => h x (List.mem_cons_of_mem _ hx)]
    rfl
theorem noLs_mem {ds : List PyData} (h : noLs ds = true) : ∀ d ∈ ds, noL d = true := by
  induction ds with
  | nil => intro d hd; cases hd
  | cons x ds ih =>
    obtain ⟨n1, n2⟩ := Bool.and_eq_true_iff.mp (show (noL x && noLs ds) = true from h)
    intro d hd
    rcases List.mem_cons.mp hd with e | e
    · rw [e]; exact n1
    · exact ih n2 d e
/-! lists of data -/
theorem DtAll.len {H : Hp} : ∀ {vs : List V} {ds : List PyData}, DtAll H vs ds → vs.length = ds.length
  | _, _, .nil => rfl
  | _, _, .cons _ h => by rw [List.length_cons, List.length_cons, h.len]
theorem DtAll.app {H : Hp} : ∀ {vs us : List V} {ds es : List PyData}, DtAll H vs ds → DtAll H us es → DtAll H (vs ++ us) (ds ++ es)
  | _, _, _, _, .nil, h => h
  | _, _, _, _, .cons a b, h => .cons a (b.app h)
theorem DtAll.get {H : Hp} : ∀ {vs : List V} {ds : List PyData} (i : Nat) {v : V}, DtAll H vs ds → vs[i]? = some v → ∃ d, ds[i]? = some d ∧ Dt H v d
  | _, _, _, _, .nil, e => by simp at e
  | _, _, 0, _, .cons a _, e => by
    have e := Option.some.inj e
    subst e
    exact ⟨_, rfl, a⟩
  | _, _, i + 1, _, .cons _ b, e => b.get i e
theorem DtAll.getD {H : Hp} : ∀ {vs : List V} {ds : List PyData} (i : Nat) {d : PyData}, DtAll H vs ds → ds[i]? = some d → ∃ v, vs[i]? = some v ∧ Dt H v d
  | _, _, _, _, .nil, e => by simp at e
  | _, _, 0, _, .cons a _, e => by
    have e := Option.some.inj e
    subst e
    exact ⟨_, rfl, a⟩
  | _, _, i + 1, _, .cons _ b, e => b.getD i e
theorem DtAll.ints {H : Hp} : ∀ ns : List Int, DtAll H (ns.map V.int) (ns.map PyData.int)
  | [] => .nil
  | n :: ns => .cons (.int n) (DtAll.ints ns)
theorem DtAll.ints_eq {H : Hp} : ∀ {vs : List V} (ns : List Int), DtAll H vs (ns.map PyData.int) → vs = ns.map V.int
  | _, [], h => by cases h; rfl
  | _, n :: ns, h => by
    cases h with
    | cons a b =>
      cases a
      rw [DtAll.ints_eq ns b]
      rfl
theorem Dt.int_eq {H : Hp} {v : V} {i : Int} (h : Dt H v (.int i)) : v = .int i := by cases h; rfl
theorem Dt.bl_eq {H : Hp} {v : V} {b : Bool} (h : Dt H v (.bool b)) : v = .bl b := by cases h; rfl
theorem Dt.non_eq {H : Hp} {v : V} (h : Dt H v .none) : v = .non := by cases h; rfl
theorem Dt.tup_get {H : Hp} {v : V} {ds : List PyData} (h : Dt H v (.tuple ds)) : ∃ a xs, v = .ref a ∧ H a = some (.tup xs) ∧ DtAll H xs ds := by
  cases h with
  | tup a b => exact ⟨_, _, rfl, a, b⟩
theorem Dt.lst_get {H : Hp} {v : V} {ds : List PyData} (h : Dt H v (.list ds)) : ∃ a xs, v = .ref a ∧ H a = some (.lst xs) ∧ DtAll H xs ds := by
  cases h with
  | lst a b => exact ⟨_, _, rfl, a, b⟩
/-! into the layer's own word -/
mutual
theorem Dt.dp {K : PySem.W.Frag} {H : Hp} : ∀ (d : PyData) (v : V), d.canLay0 = true → Dt H v d → Dp K H v d
  | .none, _, _, h => by cases h; exact .non
  | .bool b, _, _, h => by cases h; exact .bl b
  | .int i, _, _, h => by cases h; exact .int i
  | .str x, _, _, h => by cases h; exact .str x
  | .list ds, _, n, h => by
    have n : PyData.canLayAll0 ds = true := by simpa [PyData.canLay0] using n
    cases h with
    | lst hs ha => exact .lst (.inl (.inl hs)) (DtAll.dp ds _ n ha)
  | .tuple ds, _, n, h => by
    have n : PyData.canLayAll0 ds = true := by simpa [PyData.canLay0] using n
    cases h with
    | tup hs ha => exact .tup (.inl (.inl hs)) (DtAll.dp ds _ n ha)
  | .dict _, _, n, _ => by simp [PyData.canLay0] at n
theorem DtAll.dp {K : PySem.W.Frag} {H : Hp} : ∀ (ds : List PyData) (vs : List V), PyData.canLayAll0 ds = true → DtAll H vs ds → DpAll K H vs ds
  | [], _, _, h => by cases h; exact .nil
  | d :: ds, _, n, h => by
    have n : d.canLay0 = true ∧ PyData.canLayAll0 ds = true := by simpa [PyData.canLayAll0] using n
    cases h with
    | cons h1 h2 => exact .cons (Dt.dp d _ n.1 h1) (DtAll.dp ds _ n.2 h2)
end
/-! ### kinds -/
def tyN : PyData → String
  | .none => "NoneType"
  | .bool _ => "bool"
  | .int _ => "int"
  | .str _ => "str"
  | .list _ => "list"
  | .tuple _ => "tuple"
  | .dict _ => "dict"
theorem Dt.ty {K : PySem.W.Frag} {H : Hp} {v : V} {d : PyData} (h : Dt H v d) : TyX K H v (.type (tyN d)) := by
  cases h with
  | non => exact .base .non
  | bl b => exact .base (.bl b)
  | int i => exact .base (.int i)
  | str x => exact .base (.str x)
  | lst a b => exact .base (.lst a)
  | tup a b => exact .base (.tup a)
  | dic a => exact .base (.dK a)
def dInt : PyData → Bool
  | .int _ | .bool _ => true
  | _ => false
def dBool : PyData → Bool
  | .bool _ => true
  | _ => false
def dTup : PyData → Bool
  | .tuple _ => true
  | _ => false
def dLst : PyData → Bool
  | .list _ => true
  | _ => false
/-- a whole number -/
def dWhole : PyData → Bool
  | .int _ => true
  | _ => false
theorem kit_int (d : PyData) : kitB (tyN d) "int" = some (dInt d) := by
  cases d with
  | none => show kitB "NoneType" "int" = some false; decide +kernel
  | bool _ => show kitB "bool" "int" = some true; decide +kernel
  | int _ => show kitB "int" "int" = some true; decide +kernel
  | str _ => show kitB "str" "int" = some false; decide +kernel
  | list _ => show kitB "list" "int" = some false; decide +kernel
  | tuple _ => show kitB "tuple" "int" = some false; decide +kernel
  | dict _ => show kitB "dict" "int" = some false; decide +kernel
theorem kit_bool (d : PyData) : kitB (tyN d) "bool" = some (dBool d) := by
  cases d with
  | none => show kitB "NoneType" "bool" = some false; decide +kernel
  | bool _ => show kitB "bool" "bool" = some true; decide +kernel
  | int _ => show kitB "int" "bool" = some false; decide +kernel
  | str _ => show kitB "str" "bool" = some false; decide +kernel
  | list _ => show kitB "list" "bool" = some false; decide +kernel
  | tuple _ => show kitB "tuple" "bool" = some false; decide +kernel
  | dict _ => show kitB "dict" "bool" = some false; decide +kernel
theorem kit_tup (d : PyData) : kitB (tyN d) "tuple" = some (dTup d) := by
  cases d with
  | none => show kitB "NoneType" "tuple" = some false; decide +kernel
  | bool _ => show kitB "bool" "tuple" = some false; decide +kernel
  | int _ => show kitB "int" "tuple" = some false; decide +kernel
  | str _ => show kitB "str" "tuple" = some false; decide +kernel
  | list _ => show kitB "list" "tuple" = some false; decide +kernel
  | tuple _ => show kitB "tuple" "tuple" = some true; decide +kernel
  | dict _ => show kitB "dict" "tuple" = some false; decide +kernel
theorem kit_lst (d : PyData) : kitB (tyN d) "list" = some (dLst d) := by
  cases d with
  | none => show kitB "NoneType" "list" = some false; decide +kernel
  | bool _ => show kitB "bool" "list" = some false; decide +kernel
  | int _ => show kitB "int" "list" = some false; decide +kernel
  | str _ => show kitB "str" "list" = some false; decide +kernel
  | list _ => show kitB "list" "list" = some true; decide +kernel
  | tuple _ => show kitB "tuple" "list" = some false; decide +kernel
  | dict _ => show kitB "dict" "list" = some false; decide +kernel
theorem rIsi_of {K : PySem.W.Frag} {H : Hp} {v : V} {d : PyData} {c : String} {b : Bool} {Q : VK} (h : Dt H v d) (k : kitB (tyN d) c = some b) (q : Q (.bl b) H) : rIsi K [v, .ty c] H Q :=
  ⟨v, .ty c, _, _, b, rfl, .ty c, h.ty, kit_ty k, q⟩
/-! ### the refusals' classes -/
def ExcFacts (K : PySem.W.Frag) (C : Addr) : Prop := PySem.W.excIn K C He.veBase "ValueError.__new__" = true ∧ PySem.W.keepIn K (.ref C) = true ∧ PySem.W.subIn K (.ref C) (.type "BaseException") = some true ∧ PySem.W.typeIn K (.ref C) = some (.type "type")
theorem excFacts_of {K : PySem.W.Frag} {x : Str} (c : (He.Fa.exc x).ok K = true) : ExcFacts K (He.ga K x) := by
  obtain ⟨c1, c⟩ := He.ba c
  obtain ⟨c2, c⟩ := He.ba c
  obtain ⟨c3, c4⟩ := He.ba c
  exact ⟨c1, c2, of_decide_eq_true c3, of_decide_eq_true c4⟩
/-! ### tests -/
theorem itT {b : Bool} {A B : Prop} (hb : b = true) (h : A) : if b = true then A else B := by
  rw [if_pos hb]
  exact h
theorem itF {b : Bool} {A B : Prop} (hb : b = false) (h : B) : if b = true then A else B := by
  rw [if_neg (by rw [hb]; exact Bool.false_ne_true)]
  exact h
theorem it2 {b : Bool} {A B : Prop} (h1 : b = true → A) (h2 : b = false → B) : if b = true then A else B := by
  cases b with
  | true => exact itT rfl (h1 rfl)
  | false => exact itF rfl (h2 rfl)
theorem dI {i j : Int} : decide (V.int i = V.int j) = decide (i = j) := by
  by_cases e : i = j
  · subst e
    rw [decide_eq_true rfl, decide_eq_true rfl]
  · rw [decide_eq_false e, decide_eq_false fun z => e (V.int.inj z)]
/-! ### greatest divisors -/
theorem gcd_step (x y : Int) : Int.gcd y (x % y) = Int.gcd x y := by
  have e : x % y = x - y * (x / y) := Int.emod_def x y
  refine Nat.dvd_antisymm (Int.dvd_gcd ?_ (Int.gcd_dvd_left y (x % y))) (Int.dvd_gcd (Int.gcd_dvd_right x y) ?_)
  · have h1 : ((Int.gcd y (x % y) : Nat) : Int) ∣ y := Int.gcd_dvd_left y (x % y)
    have h2 : ((Int.gcd y (x % y) : Nat) : Int) ∣ x % y := Int.gcd_dvd_right y (x % y)
    have h3 : x = x % y + y * (x / y) := by omega
    rw [h3]
    have h4 : ((Int.gcd y (x % y) : Nat) : Int) ∣ x % y + y * (x / y) := Int.dvd_add h2 (Int.dvd_mul_of_dvd_left h1)
    rw [← h3]
    rw [← h3] at h4
    exact h4
  · rw [e]
    exact Int.dvd_sub (Int.gcd_dvd_left x y) (Int.dvd_mul_of_dvd_left (Int.gcd_dvd_right x y))
def dPair : PyData → Bool
  | .tuple ds => decide (ds.length = 2)
  | _ => false
theorem dPair_get {d : PyData} (h : dPair d = true) : ∃ a b, d = .tuple [a, b] := by
  cases d with
  | tuple ds =>
    have h : ds.length = 2 := of_decide_eq_true h
    match ds, h with
    | [a, b], _ => exact ⟨a, b, rfl⟩
  | _ => exact nomatch h
theorem dWhole_get {d : PyData} (h : dWhole d = true) : ∃ i, d = .int i := by
  cases d with
  | int i => exact ⟨i, rfl⟩
  | _ => exact nomatch h
/-- bounds (n, d), both at most m -/
def dBounds : PyData → Bool
  | .tuple [.int n, .int d] => decide (0 ≤ n) && decide (1 ≤ d)
  | _ => false
def dBoundsTo (m : Int) : PyData → Bool
  | .tuple [.int n, .int d] => decide (0 ≤ n) && decide (1 ≤ d) && decide (n ≤ m) && decide (d ≤ m)
  | _ => false
theorem dBounds_pair {d : PyData} (h : dPair d = false) : dBounds d = false := by
  match d, h with
  | .tuple [], _ => simp [dBounds]
  | .tuple [_], _ => simp [dBounds]
  | .tuple [_, _], h => exact nomatch h
  | .tuple (_ :: _ :: _ :: _), _ => simp [dBounds]
  | .none, _ => rfl
  | .bool _, _ => rfl
  | .int _, _ => rfl
  | .str _, _ => rfl
  | .list _, _ => rfl
  | .dict _, _ => rfl
theorem dBounds_get {d : PyData} (h : dBounds d = true) : ∃ n m : Int, d = .tuple [.int n, .int m] ∧ 0 ≤ n ∧ 1 ≤ m := by
  unfold dBounds at h
  split at h
  · obtain ⟨h1, h2⟩ := Bool.and_eq_true_iff.mp h
    exact ⟨_, _, rfl, of_decide_eq_true h1, of_decide_eq_true h2⟩
  · cases h
theorem dBoundsTo_no {m : Int} {d : PyData} (h : dBounds d = false) : dBoundsTo m d = false := by
  unfold dBoundsTo
  split
  · unfold dBounds at h
    simp only at h
    rw [h]
    rfl
  · rfl
/-! ### lists that grow, of data without lists -/
def AccL (H : Hp) (D : Addr) (ds : List PyData) : Prop := ∃ acc, H D = some (.lst acc) ∧ DtAll H acc ds ∧ noLs ds = true
theorem noLs_app {a b : List PyData} (h1 : noLs a = true) (h2 : noLs b = true) : noLs (a ++ b) = true := noLs_of fun d hd => by
  rcases List.mem_append.mp hd with e | e
  · exact noLs_mem h1 d e
  · exact noLs_mem h2 d e
theorem AccL.new {H : Hp} {D : Addr} : AccL (upd H D (.lst [])) D [] := ⟨[], upd_same, .nil, rfl⟩
theorem AccL.up {H H' : Hp} {D : Addr} {ds : List PyData} (h : AccL H D ds) (e : Ex H H') : AccL H' D ds := by
  obtain ⟨acc, h1, h2, h3⟩ := h
  exact ⟨acc, e _ _ h1, h2.up e, h3⟩
theorem AccL.app {H H2 : Hp} {D : Addr} {ds : List PyData} {v : V} {d : PyData} (h : AccL H D ds) (e : Ex H H2) (hv : Dt H2 v d) (nd : noL d = true) : ∃ acc, H2 D = some (.lst acc) ∧ acc.length = ds.length ∧ AccL (upd H2 D (.lst (acc ++ [v]))) D (ds ++ [d]) := by
  obtain ⟨acc, h1, h2, h3⟩ := h
  have hD := e _ _ h1
  have hL : IsL H2 D := ⟨acc, hD⟩
  refine ⟨acc, hD, h2.len, acc ++ [v], upd_same, DtAll.app ?_ (.cons ?_ .nil), noLs_app h3 ?_⟩
  · exact DtAll.monoB hL ExB.upd ds acc h3 (h2.up e)
  · exact Dt.monoB hL ExB.upd d v nd hv
  · show (noL d && true) = true
    rw [nd]
    rfl
theorem AccL.dt {H : Hp} {D : Addr} {ds : List PyData} (h : AccL H D ds) : Dt H (.ref D) (.list ds) := by
  obtain ⟨acc, h1, h2, _⟩ := h
  exact .lst h1 h2
/-! ### the draws -/
def PoolB (H : Hp) (pa : Addr) (n : Nat) : Prop := ∃ a b c : Int, H pa = some (.lst [.int a, .int b, .int c]) ∧ 0 ≤ c ∧ c + n ≤ 1099511627776
theorem PoolB.isL {H : Hp} {pa : Addr} {n : Nat} (h : PoolB H pa n) : IsL H pa := by
  obtain ⟨a, b, c, h, _⟩ := h
  exact ⟨_, h⟩
theorem PoolB.up {H H' : Hp} {pa : Addr} {n : Nat} (h : PoolB H pa n) (e : Ex H H') : PoolB H' pa n := by
  obtain ⟨a, b, c, h, h2⟩ := h
  exact ⟨a, b, c, e _ _ h, h2⟩
theorem PoolB.less {H : Hp} {pa : Addr} {n m : Nat} (h : PoolB H pa n) (l : m ≤ n) : PoolB H pa m := by
  obtain ⟨a, b, c, h, h2, h3⟩ := h
  exact ⟨a, b, c, h, h2, by omega⟩
theorem ExB.free {B : Addr} {H H' : Hp} (e : ExB B H H') (hB : IsL H' B) {p : Addr} (h : H' p = none) : H p = none := by
  cases q : H p with
  | none => rfl
  | some o =>
    by_cases z : p = B
    · obtain ⟨xs, hx⟩ := hB
      rw [z, hx] at h
      cases h
    · rw [e p o z q] at h
      cases h
theorem Dt.dr {B : Addr} {H H' : Hp} {v : V} {d : PyData} (h : Dt H v d) (hB : IsL H B) (e : ExB B H H') (n : noL d = true) : Dt H' v d := Dt.monoB hB e d v n h
/-! ### picked ones, in order -/
def sel (f : Nat → Bool) (g : Nat → PyData) : Nat → List PyData
  | 0 => []
  | n + 1 => sel f g n ++ (if f n = true then [g n] else [])
theorem sel_yes {f : Nat → Bool} {g : Nat → PyData} {n : Nat} (h : f n = true) : sel f g (n + 1) = sel f g n ++ [g n] := by
  show sel f g n ++ (if f n = true then [g n] else []) = _
  rw [if_pos h]
theorem sel_no {f : Nat → Bool} {g : Nat → PyData} {n : Nat} (h : f n = false) : sel f g (n + 1) = sel f g n := by
  show sel f g n ++ (if f n = true then [g n] else []) = _
  rw [if_neg (by rw [h]; exact Bool.false_ne_true), List.append_nil]
theorem sel_len (f : Nat → Bool) (g : Nat → PyData) : ∀ n : Nat, (sel f g n).length ≤ n
  | 0 => Nat.le_refl 0
  | n + 1 => by
    have h := sel_len f g n
    cases e : f n with
    | true => rw [sel_yes e, List.length_append]; exact Nat.add_le_add h (Nat.le_refl 1)
    | false => rw [sel_no e]; omega
theorem sel_congr {f f' : Nat → Bool} {g g' : Nat → PyData} : ∀ n : Nat, (∀ i, i < n → f i = f' i) → (∀ i, i < n → g i = g' i) → sel f g n = sel f' g' n
  | 0, _, _ => rfl
  | n + 1, h1, h2 => by
    show sel f g n ++ (if f n = true then [g n] else []) = sel f' g' n ++ (if f' n = true then [g' n] else [])
    rw [sel_congr n (fun i hi => h1 i (by omega)) (fun i hi => h2 i (by omega)), h1 n (by omega), h2 n (by omega)]
theorem _root_.Evl.Ex.keepB {B : Addr} {H0 H H' : Hp} (a : Ex H0 H) (n : H0 B = none) (b : ExB B H H') : Ex H0 H' := fun x o h => b x o (ne_of_none h n) (a x o h)
/-! ### what an expression is worth, as data -/
def EvD (te : TE) (σ : L2.St) (H : Hp) (d : PyData) : Prop := ∀ H1, Ex H H1 → ∀ Q : VK, (∀ v H2, Ex H1 H2 → Dt H2 v d → Q v H2) → te σ H1 Q
def EvN (te : TE) (σ : L2.St) (H : Hp) (ds : List PyData) : Prop := ∀ H1, Ex H H1 → ∀ Q : VK, (∀ p H2, H1 p = none → Ex H1 H2 → AccL H2 p ds → Q (.ref p) H2) → te σ H1 Q
def EvDA (ta : TA) (σ : L2.St) (H : Hp) (ds : List PyData) : Prop := ∀ H1, Ex H H1 → ∀ Q : List V → Hp → Prop, (∀ vs H2, Ex H1 H2 → DtAll H2 vs ds → Q vs H2) → ta σ H1 Q
section
variable {K : PySem.W.Frag} {σ : L2.St} {H H' : Hp} {ta tb te tl : TE} {t u : TT} {d : PyData} {ds : List PyData}
theorem EvD.mono (e : Ex H H') (h : EvD te σ H d) : EvD te σ H' d := fun H1 a Q q => h H1 (e.trans a) Q q
theorem EvN.mono (e : Ex H H') (h : EvN te σ H ds) : EvN te σ H' ds := fun H1 a Q q => h H1 (e.trans a) Q q
theorem EvN.ed (h : EvN te σ H ds) : EvD te σ H (.list ds) := fun H1 e Q q => h H1 e Q fun p H2 _ e2 a => q _ H2 e2 a.dt
theorem ed_of {v : V} (h : Ev te σ H v) (hd : Dt H v d) : EvD te σ H d := fun H1 e Q q => h H1 e Q fun H2 e2 => q v H2 e2 (hd.up (e.trans e2))
theorem ed_var {v : V} {i : Nat} (h : σ[i]? = some (some v)) (hd : Dt H v d) : EvD (tVar i) σ H d := ed_of (ev_var h) hd
theorem ed_int {i : Int} (h : Ev te σ H (.int i)) : EvD te σ H (.int i) := ed_of h (.int i)
theorem ev_int {i : Int} (h : EvD te σ H (.int i)) : Ev te σ H (.int i) := fun H1 e Q q => h H1 e Q fun v H2 e2 hd => by
  rw [hd.int_eq]
  exact q H2 e2
theorem ev_bl {b : Bool} (h : EvD te σ H (.bool b)) : Ev te σ H (.bl b) := fun H1 e Q q => h H1 e Q fun v H2 e2 hd => by
  rw [hd.bl_eq]
  exact q H2 e2
theorem eda_nil : EvDA tNil σ H [] := fun H1 _ _ q => q [] H1 (Ex.refl H1) .nil
theorem eda_cons {tr : TA} (h : EvD te σ H d) (hr : EvDA tr σ H ds) : EvDA (tCons te tr) σ H (d :: ds) := fun H1 e _ q =>
  h H1 e _ fun v H2 e2 hv => hr H2 (e.trans e2) _ fun vs H3 e3 hvs => q (v :: vs) H3 (e2.trans e3) (.cons (hv.up e3) hvs)
theorem ed_tup {tr : TA} (h : EvDA tr σ H ds) (hl : ds.length ≤ 100000) : EvD (tTup tr) σ H (.tuple ds) := fun H1 e _ q =>
  h H1 e _ fun vs H2 e2 hv => ⟨sz_of (by rw [hv.len]; exact hl), fun p hp => q _ _ (e2.trans (Ex.new hp)) (.tup upd_same (hv.up (Ex.new hp)))⟩
theorem en_lst {tr : TA} (h : EvDA tr σ H ds) (hl : ds.length ≤ 100000) (hn : noLs ds = true) : EvN (tLst tr) σ H ds := fun H1 e _ q =>
  h H1 e _ fun vs H2 e2 hv => ⟨sz_of (by rw [hv.len]; exact hl), fun p hp => q p _ (fresh_back e2 hp) (e2.trans (Ex.new hp)) ⟨vs, upd_same, hv.up (Ex.new hp), hn⟩⟩
/-- one turn of a comprehension -/
theorem lc_turn {H1 H2 : Hp} {D : Addr} {dsi : List PyData} {b : Bool} {σ2 : L2.St} (p : Ex H1 H2 ∧ AccL H2 D dsi) (hD : H1 D = none) (hz : dsi.length < 50000) (ht : EvT t σ2 H1 b) (he : b = true → EvD te σ2 H1 d) (nd : b = true → noL d = true) :
    t σ2 H2 fun c H3 => if c = true then te σ2 H3 fun y H4 => ∃ acc, H4 D = some (.lst acc) ∧ acc.length < sizeLine ∧ (Ex H1 (upd H4 D (.lst (acc ++ [y]))) ∧ AccL (upd H4 D (.lst (acc ++ [y]))) D (dsi ++ (if b = true then [d] else []))) else (Ex H1 H3 ∧ AccL H3 D (dsi ++ (if b = true then [d] else []))) := by
  obtain ⟨e1, a1⟩ := p
  refine ht H2 e1 _ fun H3 e3 => ?_
  cases b with
  | true =>
    refine itT rfl (he rfl H3 (e1.trans e3) _ fun v H4 e4 hv => ?_)
    obtain ⟨acc, h1, h2, h3⟩ := a1.app (e3.trans e4) hv (nd rfl)
    exact ⟨acc, h1, sz_lt (by omega), Ex.mut ((e1.trans e3).trans e4) hD, h3⟩
  | false =>
    refine itF rfl ⟨e1.trans e3, ?_⟩
    rw [if_neg Bool.false_ne_true, List.append_nil]
    exact a1.up e3
theorem take_flt {α β : Type} (f : α → Bool) (g : α → β) {ds : List α} {i : Nat} {d : α} (h : ds[i]? = some d) : ((ds.take (i + 1)).filter f).map g = ((ds.take i).filter f).map g ++ (if f d = true then [g d] else []) := by
  rw [List.take_add_one, h, List.filter_append, List.map_append]
  congr 1
  cases e : f d with
  | true => simp [e]
  | false => simp [e]
theorem flt_len {α β : Type} (f : α → Bool) (g : α → β) (ds : List α) (i : Nat) : (((ds.take i).filter f).map g).length ≤ ds.length := by
  rw [List.length_map]
  have h1 := List.length_filter_le f (ds.take i)
  have h2 : (ds.take i).length ≤ ds.length := by
    rw [List.length_take]
    exact Nat.min_le_right _ _
  omega
/-- [te for x in tl if t] over a list of data -/
theorem en_lcD {j : Nat} {vs : List Nat} (f : PyData → Bool) (g : PyData → PyData) (h : EvD tl σ H (.list ds)) (hz : ds.length ≤ 40000) (hw : ∀ x, wipe ((wipe σ vs).set j (some x)) vs = wipe σ vs)
    (ht : ∀ H1 v d, Ex H H1 → d ∈ ds → Dt H1 v d → EvT t ((wipe σ vs).set j (some v)) H1 (f d)) (he : ∀ H1 v d, Ex H H1 → d ∈ ds → Dt H1 v d → f d = true → EvD te ((wipe σ vs).set j (some v)) H1 (g d)) (hn : ∀ d, d ∈ ds → f d = true → noL (g d) = true) :
    EvN (tLc (iList K tl) (gName j) t te vs) σ H ((ds.filter f).map g) := fun H0 e Q q => h H0 e _ fun v H1 e1 hv => by
  obtain ⟨a, xs, rfl, ha, hx⟩ := hv.lst_get
  refine ⟨a, rfl, ⟨xs, sq_of ha⟩, fun D hD => lc_list (xs := xs) (fun i H' => Ex H1 H' ∧ AccL H' D (((ds.take i).filter f).map g)) ⟨Ex.new hD, AccL.new⟩ (fun i H' _ p => sq_of (p.1 a _ ha)) (fun i x H' hi p => ?_) (fun H' p => ?_)⟩
  · obtain ⟨d, hd, hxd⟩ := hx.get i hi
    have hm := List.mem_of_getElem? hd
    refine ⟨hw x, ?_⟩
    show t _ H' fun c H3 => if c = true then te _ H3 fun y H4 => ∃ acc, H4 D = some (.lst acc) ∧ acc.length < sizeLine ∧ (Ex H1 (upd H4 D (.lst (acc ++ [y]))) ∧ AccL (upd H4 D (.lst (acc ++ [y]))) D (((ds.take (i + 1)).filter f).map g)) else (Ex H1 H3 ∧ AccL H3 D (((ds.take (i + 1)).filter f).map g))
    rw [take_flt f g hd]
    exact lc_turn p hD (by have := flt_len f g ds i; omega) (ht H1 x d (e.trans e1) hm hxd) (fun hf => he H1 x d (e.trans e1) hm hxd hf) (hn d hm)
  · rw [hx.len, List.take_length] at p
    exact q D H' (fresh_back e1 hD) (e1.trans p.1) p.2
/-- .. over a tuple of data -/
theorem en_lcT {j : Nat} {vs : List Nat} (f : PyData → Bool) (g : PyData → PyData) (h : EvD tl σ H (.tuple ds)) (hz : ds.length ≤ 40000) (hw : ∀ x, wipe ((wipe σ vs).set j (some x)) vs = wipe σ vs)
    (ht : ∀ H1 v d, Ex H H1 → d ∈ ds → Dt H1 v d → EvT t ((wipe σ vs).set j (some v)) H1 (f d)) (he : ∀ H1 v d, Ex H H1 → d ∈ ds → Dt H1 v d → f d = true → EvD te ((wipe σ vs).set j (some v)) H1 (g d)) (hn : ∀ d, d ∈ ds → f d = true → noL (g d) = true) :
    EvN (tLc (iTup K tl) (gName j) t te vs) σ H ((ds.filter f).map g) := fun H0 e Q q => h H0 e _ fun v H1 e1 hv => by
  obtain ⟨a, xs, rfl, ha, hx⟩ := hv.tup_get
  refine ⟨a, rfl, ⟨xs, st_of ha⟩, fun D hD => lc_tup (xs := xs) (fun i H' => Ex H1 H' ∧ AccL H' D (((ds.take i).filter f).map g)) ⟨Ex.new hD, AccL.new⟩ (fun i H' _ p => st_of (p.1 a _ ha)) (fun i x H' hi p => ?_) (fun H' p => ?_)⟩
  · obtain ⟨d, hd, hxd⟩ := hx.get i hi
    have hm := List.mem_of_getElem? hd
    refine ⟨hw x, ?_⟩
    show t _ H' fun c H3 => if c = true then te _ H3 fun y H4 => ∃ acc, H4 D = some (.lst acc) ∧ acc.length < sizeLine ∧ (Ex H1 (upd H4 D (.lst (acc ++ [y]))) ∧ AccL (upd H4 D (.lst (acc ++ [y]))) D (((ds.take (i + 1)).filter f).map g)) else (Ex H1 H3 ∧ AccL H3 D (((ds.take (i + 1)).filter f).map g))
    rw [take_flt f g hd]
    exact lc_turn p hD (by have := flt_len f g ds i; omega) (ht H1 x d (e.trans e1) hm hxd) (fun hf => he H1 x d (e.trans e1) hm hxd hf) (hn d hm)
  · rw [hx.len, List.take_length] at p
    exact q D H' (fresh_back e1 hD) (e1.trans p.1) p.2
/-- .. over a range -/
def irng (lo hi : Int) : List Int := (List.range (hi - lo).toNat).map fun (i : Nat) => lo + (i : Int)
theorem irng_get {lo hi : Int} {i : Nat} (h : i < (hi - lo).toNat) : (irng lo hi)[i]? = some (lo + (i : Int)) := by
  unfold irng
  rw [List.getElem?_map, List.getElem?_range h]
  rfl
theorem irng_len (lo hi : Int) : (irng lo hi).length = (hi - lo).toNat := by
  unfold irng
  rw [List.length_map, List.length_range]
theorem irng_mem {lo hi x : Int} : x ∈ irng lo hi ↔ lo ≤ x ∧ x < hi := by
  unfold irng
  rw [List.mem_map]
  constructor
  · rintro ⟨i, hi, rfl⟩
    have := List.mem_range.mp hi
    omega
  · rintro ⟨h1, h2⟩
    exact ⟨(x - lo).toNat, List.mem_range.mpr (by omega), by omega⟩
theorem en_lcR2 {ta : TA} {j : Nat} {vs : List Nat} {lo hi : Int} (f : Int → Bool) (g : Int → PyData) (h : EvA ta σ H [.int lo, .int hi]) (hz : -1000000 ≤ lo ∧ hi ≤ 1000000 ∧ hi - lo ≤ 40000 ∧ lo ≤ 1000000 ∧ -1000000 ≤ hi) (hw : ∀ x, wipe ((wipe σ vs).set j (some x)) vs = wipe σ vs)
    (ht : ∀ x, lo ≤ x → x < hi → EvT t ((wipe σ vs).set j (some (.int x))) H (f x)) (he : ∀ x, lo ≤ x → x < hi → f x = true → EvD te ((wipe σ vs).set j (some (.int x))) H (g x)) (hn : ∀ x, lo ≤ x → x < hi → f x = true → noL (g x) = true) :
    EvN (tLc (iRng2 ta) (gName j) t te vs) σ H (((irng lo hi).filter f).map g) := fun H0 e Q q => h H0 e _ fun H1 e1 => by
  refine ⟨lo, hi, rfl, ⟨by omega, by omega, by omega, by omega⟩, fun D hD => lc_range (lo := lo) (n := (hi - lo).toNat) (fun i H' => Ex H1 H' ∧ AccL H' D ((((irng lo hi).take i).filter f).map g)) ⟨Ex.new hD, AccL.new⟩ (fun i H' hi' p => ?_) (fun H' p => ?_)⟩
  · refine ⟨hw _, ?_⟩
    show t _ H' fun c H3 => if c = true then te _ H3 fun y H4 => ∃ acc, H4 D = some (.lst acc) ∧ acc.length < sizeLine ∧ (Ex H1 (upd H4 D (.lst (acc ++ [y]))) ∧ AccL (upd H4 D (.lst (acc ++ [y]))) D ((((irng lo hi).take (i + 1)).filter f).map g)) else (Ex H1 H3 ∧ AccL H3 D ((((irng lo hi).take (i + 1)).filter f).map g))
    rw [take_flt f g (irng_get hi')]
    refine lc_turn p hD ?_ ((ht _ (by omega) (by omega)).mono (e.trans e1)) (fun hf => (he _ (by omega) (by omega) hf).mono (e.trans e1)) (hn _ (by omega) (by omega))
    have := flt_len f g (irng lo hi) i
    rw [irng_len] at this
    omega
  · rw [List.take_of_length_le (by rw [irng_len]; exact Nat.le_refl _)] at p
    exact q D H' (fresh_back e1 hD) (e1.trans p.1) p.2
theorem en_lcR1 {ta : TA} {j : Nat} {vs : List Nat} {hi : Int} (f : Int → Bool) (g : Int → PyData) (h : EvA ta σ H [.int hi]) (hz : -1000000 ≤ hi ∧ hi ≤ 40000) (hw : ∀ x, wipe ((wipe σ vs).set j (some x)) vs = wipe σ vs)
    (ht : ∀ x, 0 ≤ x → x < hi → EvT t ((wipe σ vs).set j (some (.int x))) H (f x)) (he : ∀ x, 0 ≤ x → x < hi → f x = true → EvD te ((wipe σ vs).set j (some (.int x))) H (g x)) (hn : ∀ x, 0 ≤ x → x < hi → f x = true → noL (g x) = true) :
    EvN (tLc (iRng1 ta) (gName j) t te vs) σ H (((irng 0 hi).filter f).map g) := fun H0 e Q q => h H0 e _ fun H1 e1 => by
  refine ⟨hi, rfl, by omega, by omega, fun D hD => lc_range (lo := 0) (n := hi.toNat) (fun i H' => Ex H1 H' ∧ AccL H' D ((((irng 0 hi).take i).filter f).map g)) ⟨Ex.new hD, AccL.new⟩ (fun i H' hi' p => ?_) (fun H' p => ?_)⟩
  · refine ⟨hw _, ?_⟩
    show t _ H' fun c H3 => if c = true then te _ H3 fun y H4 => ∃ acc, H4 D = some (.lst acc) ∧ acc.length < sizeLine ∧ (Ex H1 (upd H4 D (.lst (acc ++ [y]))) ∧ AccL (upd H4 D (.lst (acc ++ [y]))) D ((((irng 0 hi).take (i + 1)).filter f).map g)) else (Ex H1 H3 ∧ AccL H3 D ((((irng 0 hi).take (i + 1)).filter f).map g))
    rw [take_flt f g (irng_get (lo := 0) (hi := hi) (by omega))]
    refine lc_turn p hD ?_ ((ht _ (by omega) (by omega)).mono (e.trans e1)) (fun hf => (he _ (by omega) (by omega) hf).mono (e.trans e1)) (hn _ (by omega) (by omega))
    have := flt_len f g (irng 0 hi) i
    rw [irng_len] at this
    omega
  · rw [List.take_of_length_le (by rw [irng_len]; omega)] at p
    exact q D H' (fresh_back e1 hD) (e1.trans p.1) p.2
end
/-! ### == of data -/
mutual
def flat1 : PyData → Bool
  | .none | .bool _ | .int _ => true
  | _ => false
end
theorem canLay_ints : ∀ ns : List Int, PyData.canLayAll0 (ns.map PyData.int) = true
  | [] => rfl
  | n :: ns => by
    show ((PyData.int n).canLay0 && PyData.canLayAll0 (ns.map PyData.int)) = true
    rw [canLay_ints ns]
    rfl
theorem depth_ints : ∀ ns : List Int, PyData.depthAll (ns.map PyData.int) = 0
  | [] => rfl
  | n :: ns => by
    show max (PyData.depth (.int n)) (PyData.depthAll (ns.map PyData.int)) = 0
    rw [depth_ints ns]
    rfl
theorem shaped_ints (ns : List Int) : SeqAt.shaped (.list (ns.map PyData.int)) = true := by
  show (PyData.canLayAll0 (ns.map PyData.int) && decide (PyData.depthAll (ns.map PyData.int) + 1 ≤ 64)) = true
  rw [canLay_ints, depth_ints]
  rfl
theorem shaped_intsT (ns : List Int) : SeqAt.shaped (.tuple (ns.map PyData.int)) = true := by
  show (PyData.canLayAll0 (ns.map PyData.int) && decide (PyData.depthAll (ns.map PyData.int) + 1 ≤ 64)) = true
  rw [canLay_ints, depth_ints]
  rfl
/-- a list (tuple) of things of at most k deep -/
theorem lay_all {ds : List PyData} {k : Nat} (h : ∀ d ∈ ds, d.canLay0 = true ∧ d.depth ≤ k) : PyData.canLayAll0 ds = true ∧ PyData.depthAll ds ≤ k := by
  induction ds with
  | nil => exact ⟨rfl, Nat.zero_le _⟩
  | cons d ds ih =>
    obtain ⟨h1, h2⟩ := h d List.mem_cons_self
    obtain ⟨h3, h4⟩ := ih fun x hx => h x (List.mem_cons_of_mem _ hx)
    refine ⟨?_, ?_⟩
    · show (d.canLay0 && PyData.canLayAll0 ds) = true
      rw [h1, h3]
      rfl
    · show max d.depth (PyData.depthAll ds) ≤ k
      omega
theorem lay_list {ds : List PyData} {k : Nat} (h : ∀ d ∈ ds, d.canLay0 = true ∧ d.depth ≤ k) : (PyData.list ds).canLay0 = true ∧ (PyData.list ds).depth ≤ k + 1 := by
  obtain ⟨h1, h2⟩ := lay_all h
  exact ⟨h1, Nat.succ_le_succ h2⟩
theorem lay_tup {ds : List PyData} {k : Nat} (h : ∀ d ∈ ds, d.canLay0 = true ∧ d.depth ≤ k) : (PyData.tuple ds).canLay0 = true ∧ (PyData.tuple ds).depth ≤ k + 1 := by
  obtain ⟨h1, h2⟩ := lay_all h
  exact ⟨h1, Nat.succ_le_succ h2⟩
theorem lay_pair (a b : Int) : (PyData.tuple [.int a, .int b]).canLay0 = true ∧ (PyData.tuple [.int a, .int b]).depth ≤ 1 := ⟨rfl, Nat.le_refl 1⟩
theorem shaped_of {d : PyData} {k : Nat} (h : d.canLay0 = true ∧ d.depth ≤ k) (hk : k ≤ 64) : SeqAt.shaped d = true := by
  show (d.canLay0 && decide (d.depth ≤ 64)) = true
  rw [h.1, decide_eq_true (by omega)]
  rfl
theorem eqv_self {d : PyData} (h : d.canLay0 = true) : PyData.eqv d d = true := SeqAt.eqv_refl d h
section
variable {K : PySem.W.Frag} {σ : L2.St} {H H' : Hp} {ta tb te tl : TE} {t u : TT} {d e : PyData} {ds : List PyData}
theorem rv_eqD {x y : V} (hx : Dt H x d) (hy : Dt H y e) (sd : SeqAt.shaped d = true) (se : SeqAt.shaped e = true) : RV (rEqD K) x y H (.bl (PyData.eqv d e)) := fun H1 a _ q =>
  ⟨d, e, (hx.up a).dp _ _ (SeqAt.canLay_of_shaped sd), (hy.up a).dp _ _ (SeqAt.canLay_of_shaped se), sd, se, q H1 (Ex.refl H1)⟩
theorem rv_neD {x y : V} (hx : Dt H x d) (hy : Dt H y e) (sd : SeqAt.shaped d = true) (se : SeqAt.shaped e = true) : RV (rNeD K) x y H (.bl (!PyData.eqv d e)) := fun H1 a _ q =>
  ⟨d, e, (hx.up a).dp _ _ (SeqAt.canLay_of_shaped sd), (hy.up a).dp _ _ (SeqAt.canLay_of_shaped se), sd, se, q H1 (Ex.refl H1)⟩
theorem ev_eqD (h1 : EvD ta σ H d) (h2 : EvD tb σ H e) (sd : SeqAt.shaped d = true) (se : SeqAt.shaped e = true) : Ev (tOp (rEqD K) ta tb) σ H (.bl (PyData.eqv d e)) := fun H1 a Q q =>
  h1 H1 a _ fun x H2 e2 hx => h2 H2 (a.trans e2) _ fun y H3 e3 hy => rv_eqD (hx.up e3) hy sd se H3 (Ex.refl H3) Q fun H4 e4 => q H4 ((e2.trans e3).trans e4)
theorem ev_neD (h1 : EvD ta σ H d) (h2 : EvD tb σ H e) (sd : SeqAt.shaped d = true) (se : SeqAt.shaped e = true) : Ev (tOp (rNeD K) ta tb) σ H (.bl (!PyData.eqv d e)) := fun H1 a Q q =>
  h1 H1 a _ fun x H2 e2 hx => h2 H2 (a.trans e2) _ fun y H3 e3 hy => rv_neD (hx.up e3) hy sd se H3 (Ex.refl H3) Q fun H4 e4 => q H4 ((e2.trans e3).trans e4)
/-- [..] == [], [..] != [] -/
theorem eqv_nil : PyData.eqv (.list ds) (.list []) = ds.isEmpty := by
  cases ds with
  | nil => rfl
  | cons d ds => rfl
theorem ev_eqNil (h1 : EvN ta σ H ds) (sd : SeqAt.shaped (.list ds) = true) : Ev (tOp (rEqD K) ta (tLst tNil)) σ H (.bl ds.isEmpty) := by
  have h := ev_eqD (K := K) h1.ed (EvN.ed (en_lst (H := H) (σ := σ) eda_nil (by decide) rfl)) sd rfl
  rw [eqv_nil] at h
  exact h
theorem ev_neNil (h1 : EvN ta σ H ds) (sd : SeqAt.shaped (.list ds) = true) : Ev (tOp (rNeD K) ta (tLst tNil)) σ H (.bl (!ds.isEmpty)) := by
  have h := ev_neD (K := K) h1.ed (EvN.ed (en_lst (H := H) (σ := σ) eda_nil (by decide) rfl)) sd rfl
  rw [eqv_nil] at h
  exact h
theorem ev_isi {c : String} {b : Bool} {v : V} (h : Ev te σ H v) (hd : Dt H v d) (k : kitB (tyN d) c = some b) : Ev (tCB (rIsi K) (tCons te (tCons (tC (.ty c)) tNil))) σ H (.bl b) := fun H1 a Q q =>
  h H1 a _ fun H2 e2 => rIsi_of (hd.up (a.trans e2)) k (q H2 e2)
end
/-! ### loops -/
theorem s_forZ {ta : TA} {j : Nat} {lo hi : Int} {tu : TS} {D : Ends} {σ : L2.St} {H : Hp} (h : EvA ta σ H [.int lo, .int hi]) (hb : -1000000 ≤ lo ∧ lo ≤ 1000000 ∧ -1000000 ≤ hi ∧ hi ≤ 1000000) (Pv : Nat → L2.St → Hp → Prop) (h0 : ∀ H1, Ex H H1 → Pv 0 σ H1)
    (hs : ∀ (i : Nat) σ' H', lo + (i : Int) < hi → Pv i σ' H' → tu { D with nx := Pv (i + 1), ct := Pv (i + 1), bk := D.nx } (σ'.set j (some (.int (lo + (i : Int))))) H') (hd : ∀ σ' H', Pv (hi - lo).toNat σ' H' → D.nx σ' H') : tFor (iRng2 ta) (gName j) tu D σ H :=
  h H (Ex.refl H) _ fun H1 e => ⟨lo, hi, rfl, ⟨by omega, by omega, by omega, by omega⟩, for_range (lo := lo) (n := (hi - lo).toNat) Pv (h0 H1 e) (fun i σ' H' hi p => hs i σ' H' (by omega) p) hd⟩
/-! ### the fractions within bounds -/
/-- the row of the fractions with the bottom b, tops from -n on, j of them looked at; all rows to the bottom i -/
def frow (n b : Int) (j : Nat) : List PyData := sel (fun t => decide (Int.gcd (-n + (t : Int)) b = 1)) (fun t => .tuple [.int (-n + (t : Int)), .int b]) j
def frows (n : Int) : Nat → List PyData
  | 0 => []
  | i + 1 => frows n i ++ frow n (1 + (i : Int)) (2 * n + 1).toNat
theorem frows_len {n : Int} (h0 : 0 ≤ n) (h : n ≤ 60) : ∀ i : Nat, (frows n i).length ≤ 121 * i
  | 0 => Nat.le_refl 0
  | i + 1 => by
    show (frows n i ++ frow n (1 + (i : Int)) (2 * n + 1).toNat).length ≤ _
    have h1 := frows_len h0 h i
    have h2 : (frow n (1 + (i : Int)) (2 * n + 1).toNat).length ≤ (2 * n + 1).toNat := sel_len _ _ _
    rw [List.length_append]
    omega
/-! ### statements over data -/
section
variable {K : PySem.W.Frag} {σ : L2.St} {H H' : Hp} {ta tb te tl : TE} {t u : TT} {d e : PyData} {ds : List PyData} {D : Ends} {tz : TS}
theorem q_asgN {i : Nat} (h : EvN te σ H ds) (k : ∀ p H1, H p = none → Ex H H1 → AccL H1 p ds → tz D (σ.set i (some (.ref p))) H1) : tSeq (tAsg te (gName i)) tz D σ H := h H (Ex.refl H) _ k
theorem s_asgN {i : Nat} (h : EvN te σ H ds) (k : ∀ p H1, H p = none → Ex H H1 → AccL H1 p ds → D.nx (σ.set i (some (.ref p))) H1) : tAsg te (gName i) D σ H := h H (Ex.refl H) _ k
theorem q_asgD {i : Nat} (h : EvD te σ H d) (k : ∀ v H1, Ex H H1 → Dt H1 v d → tz D (σ.set i (some v)) H1) : tSeq (tAsg te (gName i)) tz D σ H := h H (Ex.refl H) _ k
theorem s_asgD {i : Nat} (h : EvD te σ H d) (k : ∀ v H1, Ex H H1 → Dt H1 v d → D.nx (σ.set i (some v)) H1) : tAsg te (gName i) D σ H := h H (Ex.refl H) _ k
theorem s_retN (h : EvN te σ H ds) (k : ∀ p H1, H p = none → Ex H H1 → AccL H1 p ds → D.rt (.ref p) H1) : tRet te D σ H := h H (Ex.refl H) _ k
theorem s_retD (h : EvD te σ H d) (k : ∀ v H1, Ex H H1 → Dt H1 v d → D.rt v H1) : tRet te D σ H := h H (Ex.refl H) _ k
end
/-! ### the layer's rules, the written part told by name -/
section
variable {X : Cx} {tg l e : Expr} {tl te : TE} {pos : Pos}
theorem pi_listK (K : PySem.W.Frag) (hl : PE X l tl) (hK : X.K = K := by rfl) : PI X tg l (iList K tl) := by
  subst hK
  exact pi_list hl
theorem pi_tupK (K : PySem.W.Frag) (hl : PE X l tl) (hK : X.K = K := by rfl) : PI X tg l (iTup K tl) := by
  subst hK
  exact pi_tup hl
theorem pe_revLK {k : Nat} {p1 p2 p3 : Pos} (K : PySem.W.Frag) (he : PE X e te) (hK : X.K = K := by rfl) : PE X (.Subscript e (.Slice none none (some (.UnaryOp .USub (.Constant (.int 1) k p1) p2)) p3) pos) (tRevL K te) := by
  subst hK
  exact pe_revL he
end
/-! ### how many turns a law takes -/
theorem turns_ok (m L : Int) (hm : 1 ≤ m) (hL : 0 ≤ L) : 1 ≤ (if (if L < m then L else m) > 1 then (if L < m then L else m) else 1) ∧ (if (if L < m then L else m) > 1 then (if L < m then L else m) else 1) ≤ m := by
  split <;> split <;> omega
theorem PoolB.dr {H : Hp} {pa : Addr} {n : Nat} {p : Addr} {o : HO} (h : PoolB H pa n) (hp : H p = none) : PoolB (upd H p o) pa n := h.up (Ex.new hp)
/-! ### sizes of drawn numbers -/
def big (i : Nat) : Int := 1000000 ^ i
theorem big_succ (i : Nat) : big (i + 1) = big i * 1000000 := Int.pow_succ 1000000 i
theorem big_pos (i : Nat) : 0 < big i := Int.pow_pos (by decide)
theorem big_le : ∀ i : Nat, i < 6 → big i ≤ 1000000000000000000000000000000 := by decide +kernel
theorem big_far {v w : Int} {i : Nat} (h0 : 0 ≤ v) (h : v < big i) (w0 : 0 ≤ w) (w1 : w < 1000000) : 0 ≤ v * 1000000 + w ∧ v * 1000000 + w < big (i + 1) := by
  rw [big_succ]
  omega
/-! ### the primes below a thousand, as the laws find them -/
def primesL : List Int := (irng 2 1000).filter fun p => ((irng 2 32).filter fun d => decide (p % d = 0) && decide (d < p)).isEmpty
theorem primesL_len : primesL.length = 168 := by decide +kernel
/-- what is_prime reckons -/
def primeB (n : Int) : Bool := decide (2 ≤ n) && decide (n < 1000) && (irng 2 32).all fun k => decide (n < k * k) || !decide (n % k = 0)
theorem primesL_prime : ∀ p ∈ primesL, primeB p = true := by decide +kernel
theorem primeB_lo {n : Int} (h : primeB n = true) : 2 ≤ n ∧ n < 1000 := by
  unfold primeB at h
  obtain ⟨h, _⟩ := Bool.and_eq_true_iff.mp h
  obtain ⟨h1, h2⟩ := Bool.and_eq_true_iff.mp h
  exact ⟨of_decide_eq_true h1, of_decide_eq_true h2⟩
theorem primesL_lo {p : Int} (h : p ∈ primesL) : 2 ≤ p ∧ p < 1000 := primeB_lo (primesL_prime p h)
theorem primesL_get {i : Nat} (h : i < 168) : ∃ p, (primesL.map V.int)[i]? = some (.int p) ∧ p ∈ primesL := by
  have h2 : i < primesL.length := by rw [primesL_len]; exact h
  refine ⟨primesL[i], ?_, List.getElem_mem h2⟩
  rw [List.getElem?_map, List.getElem?_eq_getElem h2]
  rfl
/-! ### fractions and primes as data -/
def dFrac : PyData → Bool
  | .tuple [.int t, .int b] => decide (1 ≤ b) && decide (Int.gcd t b = 1)
  | _ => false
def dPrime : PyData → Bool
  | .int n => primeB n
  | _ => false
theorem dFrac_pair {d : PyData} (h : dPair d = false) : dFrac d = false := by
  match d, h with
  | .tuple [], _ => simp [dFrac]
  | .tuple [_], _ => simp [dFrac]
  | .tuple [_, _], h => exact nomatch h
  | .tuple (_ :: _ :: _ :: _), _ => simp [dFrac]
  | .none, _ => rfl
  | .bool _, _ => rfl
  | .int _, _ => rfl
  | .str _, _ => rfl
  | .list _, _ => rfl
  | .dict _, _ => rfl
theorem dFrac_get {d : PyData} (h : dFrac d = true) : ∃ t b : Int, d = .tuple [.int t, .int b] ∧ 1 ≤ b ∧ Int.gcd t b = 1 := by
  unfold dFrac at h
  split at h
  · obtain ⟨h1, h2⟩ := Bool.and_eq_true_iff.mp h
    exact ⟨_, _, rfl, of_decide_eq_true h1, of_decide_eq_true h2⟩
  · cases h
theorem dFrac_of {t b : Int} (h1 : 1 ≤ b) (h2 : Int.gcd t b = 1) : dFrac (.tuple [.int t, .int b]) = true := by
  show (decide (1 ≤ b) && decide (Int.gcd t b = 1)) = true
  rw [decide_eq_true h1, decide_eq_true h2]
  rfl
theorem primeB_no {n k : Int} (h1 : 2 ≤ k) (h2 : k * k ≤ n) (h3 : n % k = 0) : primeB n = false := by
  cases e : primeB n with
  | false => rfl
  | true =>
    have hn := primeB_lo e
    have hk : k < 32 := by
      by_cases z : k < 32
      · exact z
      · have : 32 * 32 ≤ k * k := Int.mul_le_mul (by omega) (by omega) (by decide) (by omega)
        omega
    unfold primeB at e
    obtain ⟨_, e⟩ := Bool.and_eq_true_iff.mp e
    have e := List.all_eq_true.mp e k (irng_mem.mpr ⟨h1, hk⟩)
    rw [decide_eq_false (by omega), decide_eq_true h3] at e
    exact nomatch e
theorem primeB_yes {n k : Int} (h0 : 2 ≤ n) (h1 : n < 1000) (hk : 2 ≤ k) (h2 : n < k * k) (h3 : ∀ j : Int, 2 ≤ j → j < k → n % j ≠ 0) : primeB n = true := by
  unfold primeB
  rw [decide_eq_true h0, decide_eq_true h1, Bool.true_and, Bool.true_and]
  refine List.all_eq_true.mpr fun j hj => ?_
  obtain ⟨j0, j1⟩ := irng_mem.mp hj
  by_cases z : j < k
  · rw [decide_eq_false (h3 j j0 z)]
    exact Bool.or_true _
  · have : k * k ≤ j * j := Int.mul_le_mul (by omega) (by omega) (by omega) (by omega)
    rw [decide_eq_true (by omega)]
    rfl
/-! a prime that does not divide has nothing in common -/
theorem primeB_div {p g : Int} (hp : primeB p = true) (hg : g ∣ p) (g0 : 0 < g) : g = 1 ∨ g = p := by
  obtain ⟨lo, hi⟩ := primeB_lo hp
  obtain ⟨c, hc⟩ := hg
  have hg2 : g ≤ p := Int.le_of_dvd (by omega) ⟨c, hc⟩
  have c0 : 0 < c := by
    by_cases z : 0 < c
    · exact z
    · have : g * c ≤ g * 0 := Int.mul_le_mul_of_nonneg_left (by omega) (by omega)
      omega
  by_cases z1 : g = 1
  · exact .inl z1
  · by_cases z2 : c = 1
    · rw [z2] at hc
      exact .inr (by omega)
    · exfalso
      by_cases z : g * g ≤ p
      · have := primeB_no (k := g) (by omega) z (Int.emod_eq_zero_of_dvd ⟨c, hc⟩)
        rw [hp] at this
        cases this
      · have hcg : c ≤ g := by
          by_cases y : c ≤ g
          · exact y
          · have : g * g ≤ g * c := Int.mul_le_mul_of_nonneg_left (by omega) (by omega)
            omega
        have : c * c ≤ g * c := Int.mul_le_mul_of_nonneg_right hcg (by omega)
        have := primeB_no (k := c) (n := p) (by omega) (by omega) (Int.emod_eq_zero_of_dvd ⟨g, by rw [hc, Int.mul_comm]⟩)
        rw [hp] at this
        cases this
theorem primeB_gcd {p b : Int} (hp : primeB p = true) (h : b % p ≠ 0) : Int.gcd b p = 1 := by
  have lo := primeB_lo hp
  have h0 : Int.gcd b p ≠ 0 := fun e => by
    have := Int.gcd_dvd_right b p
    rw [e] at this
    have := Int.zero_dvd.mp this
    omega
  rcases primeB_div hp (Int.gcd_dvd_right b p) (by omega) with e | e
  · omega
  · have hd := Int.gcd_dvd_left b p
    rw [e] at hd
    exact absurd (Int.emod_eq_zero_of_dvd hd) h
theorem dvd_left_of {p a b : Int} (d : p ∣ a * b) (h : Int.gcd p b = 1) : p ∣ a := by
  rw [← Int.natAbs_dvd_natAbs] at d ⊢
  rw [Int.natAbs_mul] at d
  rw [Int.gcd_eq_natAbs_gcd_natAbs] at h
  exact Nat.Coprime.dvd_of_dvd_mul_right h d
/-! ### Euclid's rows -/
structure EInv (m n ab l fa f t ta s : Int) : Prop where
  hl : l = f * n + t * m
  ha : ab = fa * n + ta * m
  hs : f * ta - fa * t = s
  sg : s = 1 ∨ s = -1
  l0 : 0 ≤ l
  la : l < ab
  am : ab ≤ m
  f1 : 1 ≤ s * f
  fa0 : s * fa ≤ 0
theorem EInv.tot {m n ab l fa f t ta s : Int} (h : EInv m n ab l fa f t ta s) : s * f * ab + (-(s * fa)) * l = m := by
  obtain ⟨hl, ha, hs, sg, _⟩ := h
  have e1 : f * ab - fa * l = m * s := by
    rw [ha, hl]
    grind
  rcases sg with rfl | rfl
  · grind
  · grind
theorem EInv.step {m n ab l fa f t ta s : Int} (h : EInv m n ab l fa f t ta s) (hl : 0 < l) : EInv m n l (ab - ab / l * l) f (fa - ab / l * f) (ta - ab / l * t) t (-s) := by
  obtain ⟨h1, h2, h3, sg, l0, la, am, f1, fa0⟩ := h
  have e := Int.emod_add_ediv_mul ab l
  have m0 := Int.emod_nonneg ab (show l ≠ 0 by omega)
  have m1 := Int.emod_lt_of_pos ab hl
  have q1 : 1 ≤ ab / l := by
    have := Int.ediv_le_ediv hl (show l ≤ ab by omega)
    rw [Int.ediv_self (by omega)] at this
    exact this
  refine ⟨?_, h1, ?_, ?_, by omega, by omega, by omega, ?_, ?_⟩
  · generalize ab / l = q at *
    grind
  · generalize ab / l = q at *
    grind
  · rcases sg with rfl | rfl
    · exact .inr rfl
    · exact .inl rfl
  · have : 1 * 1 ≤ ab / l * (s * f) := Int.mul_le_mul q1 f1 (by decide) (by omega)
    generalize ab / l = q at *
    have e2 : -s * (fa - q * f) = -(s * fa) + q * (s * f) := by grind
    rw [e2]
    omega
  · rw [Int.neg_mul]
    omega
theorem EInv.size {m n ab l fa f t ta s : Int} (h : EInv m n ab l fa f t ta s) : f.natAbs ≤ m.natAbs ∧ (0 < l → fa.natAbs ≤ m.natAbs) := by
  have tot := h.tot
  obtain ⟨_, _, _, sg, l0, la, am, f1, fa0⟩ := h
  have a1 : s * f * 1 ≤ s * f * ab := Int.mul_le_mul_of_nonneg_left (by omega) (by omega)
  have a2 : 0 ≤ -(s * fa) * l := Int.mul_nonneg (by omega) l0
  refine ⟨?_, fun hl => ?_⟩
  · rcases sg with rfl | rfl <;> omega
  · have a3 : -(s * fa) * 1 ≤ -(s * fa) * l := Int.mul_le_mul_of_nonneg_left (by omega) (by omega)
    rcases sg with rfl | rfl <;> omega
def Row (m n k l f : Int) : Prop := ∃ ab fa t ta s : Int, EInv m n ab l fa f t ta s ∧ l ≤ k ∧ (k < ab ∨ (f = 1 ∧ fa = 0 ∧ ab = m))
theorem row_inv {p a l f : Int} (h : Row p (a % p) 1 l f) (hp : 1 < p) (hg : Int.gcd a p = 1) : l = 1 ∧ f % p * a % p = 1 := by
  obtain ⟨ab, fa, t, ta, s, I, hk, hx⟩ := h
  have tot := I.tot
  have hl0 := I.l0
  have hg2 : Int.gcd p (a % p) = 1 := by rw [gcd_step, hg]
  have l1 : l = 1 := by
    by_cases z : l = 1
    · exact z
    · exfalso
      have z : l = 0 := by omega
      subst z
      have e := I.hl
      have d : p ∣ f * (a % p) := ⟨-t, by rw [Int.mul_neg, Int.mul_comm p t]; omega⟩
      have df : p ∣ f := dvd_left_of d hg2
      obtain ⟨c, hc⟩ := df
      have f1 := I.f1
      have sfp : p ≤ s * f := by
        refine Int.le_of_dvd (by omega) ⟨s * c, ?_⟩
        rw [hc]
        grind
      rw [Int.mul_zero, Int.add_zero] at tot
      rcases hx with h | ⟨rfl, _, _⟩
      · have : s * f * 2 ≤ s * f * ab := Int.mul_le_mul_of_nonneg_left (by omega) (by omega)
        omega
      · rcases I.sg with rfl | rfl <;> omega
  refine ⟨l1, ?_⟩
  have e := I.hl
  rw [l1] at e
  have h1 : f % p * a % p = f * (a % p) % p := by
    rw [Int.mul_emod, Int.emod_emod_of_dvd f (Int.dvd_refl p), ← Int.mul_emod, Int.mul_emod f (a % p), Int.emod_emod_of_dvd a (Int.dvd_refl p), ← Int.mul_emod]
  rw [h1, show f * (a % p) = 1 + p * (-t) by rw [Int.mul_neg, Int.mul_comm p t]; omega, Int.add_mul_emod_self_left]
  exact Int.emod_eq_of_lt (by decide) hp
/-! ### the rest of a fraction by a prime -/
def restI (t b p : Int) : Int := ((irng 0 p).find? fun r => decide ((r * b - t) % p = 0)).getD 0
def restD (t b p : Int) : PyData := if b % p = 0 then .none else .int (restI t b p)
theorem restI_eq {t b p r : Int} (hg : Int.gcd b p = 1) (r0 : 0 ≤ r) (r1 : r < p) (h : (r * b - t) % p = 0) : restI t b p = r := by
  unfold restI
  cases e : (irng 0 p).find? fun r => decide ((r * b - t) % p = 0) with
  | none =>
    have := List.find?_eq_none.mp e r (irng_mem.mpr ⟨r0, r1⟩)
    rw [decide_eq_true h] at this
    exact absurd rfl this
  | some x =>
    have h1 := List.find?_some e
    have h1 : (x * b - t) % p = 0 := of_decide_eq_true h1
    obtain ⟨x0, x1⟩ := irng_mem.mp (List.mem_of_find?_eq_some e)
    have d : p ∣ (x - r) * b := by
      have d1 := Int.dvd_sub (Int.dvd_of_emod_eq_zero h1) (Int.dvd_of_emod_eq_zero h)
      have : x * b - t - (r * b - t) = (x - r) * b := by grind
      rw [this] at d1
      exact d1
    have d2 : p ∣ x - r := dvd_left_of d (by rw [Int.gcd_comm]; exact hg)
    obtain ⟨c, hc⟩ := d2
    show x = r
    rcases Int.lt_trichotomy c 0 with z | z | z
    · have : p * c ≤ p * (-1) := Int.mul_le_mul_of_nonneg_left (by omega) (by omega)
      omega
    · rw [z] at hc
      omega
    · have : p * 1 ≤ p * c := Int.mul_le_mul_of_nonneg_left (by omega) (by omega)
      omega
theorem rest_ok {t b p i : Int} (hp : primeB p = true) (hb : b % p ≠ 0) (hi : i * b % p = 1) : restD t b p = .int (t * i % p) ∧ 0 ≤ t * i % p ∧ t * i % p < p ∧ (t * i % p * b - t) % p = 0 := by
  have lo := primeB_lo hp
  have r0 := Int.emod_nonneg (t * i) (show p ≠ 0 by omega)
  have r1 := Int.emod_lt_of_pos (t * i) (show 0 < p by omega)
  have h : (t * i % p * b - t) % p = 0 := by
    have e1 := Int.emod_add_mul_ediv (t * i) p
    have e2 := Int.emod_add_mul_ediv (i * b) p
    rw [hi] at e2
    generalize t * i / p = x at e1
    generalize i * b / p = y at e2
    generalize t * i % p = r at e1
    refine Int.emod_eq_zero_of_dvd ⟨t * y - x * b, ?_⟩
    grind
  refine ⟨?_, r0, r1, h⟩
  unfold restD
  rw [if_neg hb, restI_eq (primeB_gcd hp hb) r0 r1 h]
def dI0 : PyData → Int
  | .int i => i
  | _ => 0
theorem flt_ints (f : Int → Bool) (F : PyData → Bool) (h : ∀ n, F (.int n) = f n) (g : PyData → PyData) (hg : ∀ n, g (.int n) = .int n) : ∀ ns : List Int, ((ns.map PyData.int).filter F).map g = (ns.filter f).map PyData.int
  | [] => rfl
  | n :: ns => by
    rw [List.map_cons, List.filter_cons, List.filter_cons, h]
    cases f n with
    | true => simp only [if_true, List.map_cons]; rw [flt_ints f F h g hg ns, hg]
    | false => simp only [Bool.false_eq_true, if_false]; exact flt_ints f F h g hg ns
/-! ### what is sure to be there: a number that times another leaves 1 -/
theorem bez : ∀ (n : Nat) (a b : Int), 0 ≤ b → b.toNat ≤ n → ∃ x y : Int, a * x + b * y = (Int.gcd a b : Int)
  | 0, a, b, h0, h1 => by
    have e : b = 0 := by omega
    subst e
    rw [Int.gcd_zero_right]
    rcases Int.natAbs_eq a with z | z
    · exact ⟨1, 0, by omega⟩
    · exact ⟨-1, 0, by omega⟩
  | n + 1, a, b, h0, h1 => by
    by_cases z : b = 0
    · exact bez 0 a b h0 (by omega)
    · have m0 := Int.emod_nonneg a z
      have m1 := Int.emod_lt_of_pos a (show 0 < b by omega)
      obtain ⟨x, y, e⟩ := bez n b (a % b) m0 (by omega)
      rw [gcd_step] at e
      refine ⟨y, x - a / b * y, ?_⟩
      rw [← e]
      have := Int.emod_add_mul_ediv a b
      generalize a % b = r at *
      generalize a / b = q at *
      grind
theorem inv_ex {b p : Int} (hp : 1 < p) (hg : Int.gcd b p = 1) : ∃ i : Int, i * b % p = 1 := by
  obtain ⟨x, y, e⟩ := bez p.toNat b p (by omega) (Nat.le_refl _)
  rw [hg] at e
  refine ⟨x, ?_⟩
  rw [show x * b = 1 + p * (-y) by grind, Int.add_mul_emod_self_left]
  exact Int.emod_eq_of_lt (by decide) hp
theorem restD_ok {t b p : Int} (hp : primeB p = true) (hb : b % p ≠ 0) : ∃ r : Int, restD t b p = .int r ∧ 0 ≤ r ∧ r < p ∧ (r * b - t) % p = 0 := by
  have lo := primeB_lo hp
  obtain ⟨i, hi⟩ := inv_ex (by omega) (primeB_gcd hp hb)
  obtain ⟨h1, h2, h3, h4⟩ := rest_ok (t := t) hp hb hi
  exact ⟨_, h1, h2, h3, h4⟩
theorem restD_none {t b p : Int} (hb : b % p = 0) : restD t b p = .none := by
  unfold restD
  rw [if_pos hb]
/-! ### lists of drawn primes -/
def PrL (H : Hp) (a : Addr) (m : Nat) : Prop := ∃ qs : List Int, H a = some (.lst (qs.map V.int)) ∧ qs.length ≤ m ∧ ∀ x ∈ qs, x ∈ primesL
theorem PrL.up {H H' : Hp} {a : Addr} {m : Nat} (h : PrL H a m) (e : Ex H H') : PrL H' a m := by
  obtain ⟨qs, h1, h2, h3⟩ := h
  exact ⟨qs, e _ _ h1, h2, h3⟩
theorem PrL.dr {H H' : Hp} {a B : Addr} {m : Nat} (h : PrL H a m) (n : a ≠ B) (e : ExB B H H') : PrL H' a m := by
  obtain ⟨qs, h1, h2, h3⟩ := h
  exact ⟨qs, e _ _ n h1, h2, h3⟩
theorem PrL.less {H : Hp} {a : Addr} {m k : Nat} (h : PrL H a m) (l : m ≤ k) : PrL H a k := by
  obtain ⟨qs, h1, h2, h3⟩ := h
  exact ⟨qs, h1, by omega, h3⟩
theorem PoolB.ne {H : Hp} {pa p : Addr} {n : Nat} (h : PoolB H pa n) (hp : H p = none) : p ≠ pa := fun z => by
  obtain ⟨xs, hx⟩ := h.isL
  rw [z, hx] at hp
  cases hp
theorem cut_map (qs : List Int) (lo hi : Option Int) : ∃ rs : List Int, cutV (qs.map V.int) lo hi = rs.map V.int ∧ rs.length ≤ qs.length ∧ ∀ x ∈ rs, x ∈ qs := by
  unfold cutV
  rw [← List.map_drop, ← List.map_take]
  refine ⟨_, rfl, ?_, fun x hx => List.mem_of_mem_drop (List.mem_of_mem_take hx)⟩
  rw [List.length_take, List.length_drop]
  omega
theorem atI_of {α : Type} {xs : List α} {x : Int} {v : α} (h0 : 0 ≤ x) (h : xs[x.toNat]? = some v) : atI xs x = some v := by
  have e : x = ((x.toNat : Nat) : Int) := by omega
  rw [e]
  exact atI_nat (j := x.toNat) h
/-! ### one piece of a reading at its head -/
theorem gName_app {i : Nat} {v : V} {σ : L2.St} {H : Hp} {Q : L2.St → Hp → Prop} : gName i v σ H Q = Q (σ.set i (some v)) H := rfl
theorem go_asg {te : TE} {i : Nat} {tz : TS} {D : Ends} {σ : L2.St} {H : Hp} (h : te σ H fun x H1 => tz D (σ.set i (some x)) H1) : tSeq (tAsg te (gName i)) tz D σ H := h
theorem go_asgL {te : TE} {i : Nat} {D : Ends} {σ : L2.St} {H : Hp} (h : te σ H fun x H1 => D.nx (σ.set i (some x)) H1) : tAsg te (gName i) D σ H := h
theorem go_cons {te : TE} {tr : TA} {σ : L2.St} {H : Hp} {Q : List V → Hp → Prop} (h : te σ H fun x H1 => tr σ H1 fun xs H2 => Q (x :: xs) H2) : tCons te tr σ H Q := h
theorem go_cb {te : TE} {r : List V → Hp → VK → Prop} {σ : L2.St} {H : Hp} {Q : VK} (h : te σ H fun x H1 => r [x] H1 Q) : tCB r (tCons te tNil) σ H Q := h
/-- a drawn fraction -/
def FracOk (t b : Int) : Prop := 1 ≤ b ∧ b < 1000000000000000000000000000000 ∧ t < 1000000000000000000000000000000 ∧ -1000000000000000000000000000000 < t ∧ Int.gcd t b = 1
/-! ### whole numbers below a limit, primes from 3 to 97, degrees -/
def dBelow (m : Int) : PyData → Bool
  | .int r => decide (0 ≤ r) && decide (r < m)
  | _ => false
theorem dBelow_of {m r : Int} (h0 : 0 ≤ r) (h1 : r < m) : dBelow m (.int r) = true := by
  show (decide (0 ≤ r) && decide (r < m)) = true
  rw [decide_eq_true h0, decide_eq_true h1]
  rfl
theorem dBelow_get {m : Int} {d : PyData} (h : dBelow m d = true) : ∃ r : Int, d = .int r ∧ 0 ≤ r ∧ r < m := by
  cases d with
  | int r =>
    obtain ⟨h1, h2⟩ := Bool.and_eq_true_iff.mp (show (decide (0 ≤ r) && decide (r < m)) = true from h)
    exact ⟨r, rfl, of_decide_eq_true h1, of_decide_eq_true h2⟩
  | _ => exact nomatch h
def dField : PyData → Bool
  | .int n => primeB n && decide (3 ≤ n) && decide (n ≤ 97)
  | _ => false
theorem dField_get {d : PyData} (h : dField d = true) : ∃ n : Int, d = .int n ∧ primeB n = true ∧ 3 ≤ n ∧ n ≤ 97 := by
  cases d with
  | int n =>
    obtain ⟨h1, h3⟩ := Bool.and_eq_true_iff.mp (show (primeB n && decide (3 ≤ n) && decide (n ≤ 97)) = true from h)
    obtain ⟨h1, h2⟩ := Bool.and_eq_true_iff.mp h1
    exact ⟨n, rfl, h1, of_decide_eq_true h2, of_decide_eq_true h3⟩
  | _ => exact nomatch h
def dDegs : PyData → Bool
  | .tuple [a, b] => dBelow 5 a && dBelow 5 b
  | _ => false
theorem dDegs_pair {d : PyData} (h : dPair d = false) : dDegs d = false := by
  match d, h with
  | .tuple [], _ => simp [dDegs]
  | .tuple [_], _ => simp [dDegs]
  | .tuple [_, _], h => exact nomatch h
  | .tuple (_ :: _ :: _ :: _), _ => simp [dDegs]
  | .none, _ => rfl
  | .bool _, _ => rfl
  | .int _, _ => rfl
  | .str _, _ => rfl
  | .list _, _ => rfl
  | .dict _, _ => rfl
/-- the primes from 3 to 97, as the laws write them -/
def fieldL : List Int := [3, 5, 7, 11, 13, 17, 19, 23, 29, 31, 37, 41, 43, 47, 53, 59, 61, 67, 71, 73, 79, 83, 89, 97]
theorem fieldL_ok : ∀ p ∈ fieldL, dField (.int p) = true := by decide +kernel
theorem fieldL_len : fieldL.length = 24 := rfl
theorem fieldL_get {x : Int} (h0 : 0 ≤ x) (h : x < 24) : ∃ p, atI (fieldL.map V.int) x = some (.int p) ∧ p ∈ fieldL := by
  have h2 : x.toNat < fieldL.length := by rw [fieldL_len]; omega
  refine ⟨fieldL[x.toNat], ?_, List.getElem_mem h2⟩
  refine atI_of h0 ?_
  rw [List.getElem?_map, List.getElem?_eq_getElem h2]
  rfl
def topS (i : Nat) : Stmt := PySem.Challenge.pw_toldback_k03_rests_of_fractions.main.body.getD i (.Pass ⟨0, 0, 0, 0⟩)
abbrev s_is_whole : Stmt := topS 5
abbrev N_is_whole : List Str := ["thing"]
theorem sc_is_whole : FnScope N_is_whole ["thing"] (defScope s_is_whole) := ⟨rfl, rfl, rfl, by decide +kernel, rfl, by decide +kernel, by decide +kernel⟩
abbrev s_common_divisor : Stmt := topS 6
abbrev N_common_divisor : List Str := ["one", "other"]
theorem sc_common_divisor : FnScope N_common_divisor ["one", "other"] (defScope s_common_divisor) := ⟨rfl, rfl, rfl, by decide +kernel, rfl, by decide +kernel, by decide +kernel⟩
abbrev s_short_row : Stmt := topS 7
abbrev N_short_row : List Str := ["modulus", "number", "most", "above", "left", "factor_above", "factor", "times"]
theorem sc_short_row : FnScope N_short_row ["modulus", "number", "most"] (defScope s_short_row) := ⟨rfl, rfl, rfl, by decide +kernel, rfl, by decide +kernel, by decide +kernel⟩
abbrev s_inverse : Stmt := topS 8
abbrev N_inverse : List Str := ["number", "prime"]
theorem sc_inverse : FnScope N_inverse ["number", "prime"] (defScope s_inverse) := ⟨rfl, rfl, rfl, by decide +kernel, rfl, by decide +kernel, by decide +kernel⟩
abbrev s_is_pair : Stmt := topS 11
abbrev N_is_pair : List Str := ["thing"]
theorem sc_is_pair : FnScope N_is_pair ["thing"] (defScope s_is_pair) := ⟨rfl, rfl, rfl, by decide +kernel, rfl, by decide +kernel, by decide +kernel⟩
abbrev s_is_fraction : Stmt := topS 12
abbrev N_is_fraction : List Str := ["thing", "top", "bottom"]
theorem sc_is_fraction : FnScope N_is_fraction ["thing"] (defScope s_is_fraction) := ⟨rfl, rfl, rfl, by decide +kernel, rfl, by decide +kernel, by decide +kernel⟩
abbrev s_is_prime : Stmt := topS 13
abbrev N_is_prime : List Str := ["thing", "divisor"]
theorem sc_is_prime : FnScope N_is_prime ["thing"] (defScope s_is_prime) := ⟨rfl, rfl, rfl, by decide +kernel, rfl, by decide +kernel, by decide +kernel⟩
abbrev s_need_fraction : Stmt := topS 14
abbrev N_need_fraction : List Str := ["thing"]
theorem sc_need_fraction : FnScope N_need_fraction ["thing"] (defScope s_need_fraction) := ⟨rfl, rfl, rfl, by decide +kernel, rfl, by decide +kernel, by decide +kernel⟩
abbrev s_need_prime : Stmt := topS 15
abbrev N_need_prime : List Str := ["thing"]
theorem sc_need_prime : FnScope N_need_prime ["thing"] (defScope s_need_prime) := ⟨rfl, rfl, rfl, by decide +kernel, rfl, by decide +kernel, by decide +kernel⟩
abbrev s_rest_by : Stmt := topS 16
abbrev N_rest_by : List Str := ["f", "p", "top", "bottom"]
theorem sc_rest_by : FnScope N_rest_by ["f", "p"] (defScope s_rest_by) := ⟨rfl, rfl, rfl, by decide +kernel, rfl, by decide +kernel, by decide +kernel⟩
abbrev s_rest_of : Stmt := topS 17
abbrev N_rest_of : List Str := ["f", "p"]
theorem sc_rest_of : FnScope N_rest_of ["f", "p"] (defScope s_rest_of) := ⟨rfl, rfl, rfl, by decide +kernel, rfl, by decide +kernel, by decide +kernel⟩
abbrev s_rests_of : Stmt := topS 18
abbrev N_rests_of : List Str := ["f", "primes", "p"]
theorem sc_rests_of : FnScope N_rests_of ["f", "primes"] (defScope s_rests_of) := ⟨rfl, rfl, rfl, by decide +kernel, rfl, by decide +kernel, by decide +kernel⟩
abbrev s__law_pool : Stmt := topS 20
abbrev N__law_pool : List Str := ["script", "k", "cell"]
theorem sc__law_pool : FnScope N__law_pool ["script", "k"] (defScope s__law_pool) := ⟨rfl, rfl, rfl, by decide +kernel, rfl, by decide +kernel, by decide +kernel⟩
abbrev s__law_take : Stmt := topS 21
abbrev N__law_take : List Str := ["pool", "many", "found", "step", "mark"]
theorem sc__law_take : FnScope N__law_take ["pool", "many"] (defScope s__law_take) := ⟨rfl, rfl, rfl, by decide +kernel, rfl, by decide +kernel, by decide +kernel⟩
abbrev s__law_far : Stmt := topS 22
abbrev N__law_far : List Str := ["pool", "turns", "found", "turn"]
theorem sc__law_far : FnScope N__law_far ["pool", "turns"] (defScope s__law_far) := ⟨rfl, rfl, rfl, by decide +kernel, rfl, by decide +kernel, by decide +kernel⟩
abbrev s__law_number : Stmt := topS 23
abbrev N__law_number : List Str := ["pool", "way"]
theorem sc__law_number : FnScope N__law_number ["pool"] (defScope s__law_number) := ⟨rfl, rfl, rfl, by decide +kernel, rfl, by decide +kernel, by decide +kernel⟩
abbrev s__law_all_primes : Stmt := topS 24
abbrev N__law_all_primes : List Str := ["p", "d"]
theorem sc__law_all_primes : FnScope N__law_all_primes [] (defScope s__law_all_primes) := ⟨rfl, rfl, rfl, by decide +kernel, rfl, by decide +kernel, by decide +kernel⟩
abbrev s__law_prime : Stmt := topS 25
abbrev N__law_prime : List Str := ["pool", "primes", "way"]
theorem sc__law_prime : FnScope N__law_prime ["pool", "primes"] (defScope s__law_prime) := ⟨rfl, rfl, rfl, by decide +kernel, rfl, by decide +kernel, by decide +kernel⟩
abbrev s__law_shared : Stmt := topS 26
abbrev N__law_shared : List Str := ["one", "other"]
theorem sc__law_shared : FnScope N__law_shared ["one", "other"] (defScope s__law_shared) := ⟨rfl, rfl, rfl, by decide +kernel, rfl, by decide +kernel, by decide +kernel⟩
abbrev s__law_fraction : Stmt := topS 27
abbrev N__law_fraction : List Str := ["pool", "primes", "top", "bottom", "way", "some", "turn", "part"]
theorem sc__law_fraction : FnScope N__law_fraction ["pool", "primes"] (defScope s__law_fraction) := ⟨rfl, rfl, rfl, by decide +kernel, rfl, by decide +kernel, by decide +kernel⟩
abbrev s__law_right : Stmt := topS 28
abbrev N__law_right : List Str := ["f", "p", "found"]
theorem sc__law_right : FnScope N__law_right ["f", "p", "found"] (defScope s__law_right) := ⟨rfl, rfl, rfl, by decide +kernel, rfl, by decide +kernel, by decide +kernel⟩
abbrev s__law_list_right : Stmt := topS 29
abbrev N__law_list_right : List Str := ["f", "some", "handed", "again", "found", "k"]
theorem sc__law_list_right : FnScope N__law_list_right ["f", "some"] (defScope s__law_list_right) := ⟨rfl, rfl, rfl, by decide +kernel, rfl, by decide +kernel, by decide +kernel⟩
abbrev s_law : Stmt := topS 30
abbrev N_law : List Str := ["script", "primes", "k", "pool", "f", "some", "p", "again", "many", "row", "turn"]
theorem sc_law : FnScope N_law ["script"] (defScope s_law) := ⟨rfl, rfl, rfl, by decide +kernel, rfl, by decide +kernel, by decide +kernel⟩
abbrev FnP (K : PySem.W.Frag) (x : Str) (st : Stmt) (f : Addr) (fd : FuncData) : Prop := FunD K x x (defArgs st) (defBody st) (defScope st) [] [] f fd
structure Ad where
  a_is_whole : Addr
  d_is_whole : FuncData
  a_common_divisor : Addr
  d_common_divisor : FuncData
  a_short_row : Addr
  d_short_row : FuncData
  a_inverse : Addr
  d_inverse : FuncData
  a_is_pair : Addr
  d_is_pair : FuncData
  a_is_fraction : Addr
  d_is_fraction : FuncData
  a_is_prime : Addr
  d_is_prime : FuncData
  a_need_fraction : Addr
  d_need_fraction : FuncData
  a_need_prime : Addr
  d_need_prime : FuncData
  a_rest_by : Addr
  d_rest_by : FuncData
  a_rest_of : Addr
  d_rest_of : FuncData
  a_rests_of : Addr
  d_rests_of : FuncData
  a__law_pool : Addr
  d__law_pool : FuncData
  a__law_take : Addr
  d__law_take : FuncData
  a__law_far : Addr
  d__law_far : FuncData
  a__law_number : Addr
  d__law_number : FuncData
  a__law_all_primes : Addr
  d__law_all_primes : FuncData
  a__law_prime : Addr
  d__law_prime : FuncData
  a__law_shared : Addr
  d__law_shared : FuncData
  a__law_fraction : Addr
  d__law_fraction : FuncData
  a__law_right : Addr
  d__law_right : FuncData
  a__law_list_right : Addr
  d__law_list_right : FuncData
  a_law : Addr
  d_law : FuncData
  t_PRIME_LIMIT : Tok
  k_BackError : Addr
  k_NoFraction : Addr
  k_NoPrime : Addr
structure Txt (K : PySem.W.Frag) (mg : Str → Option Value) (z : Ad) : Prop where
  F_is_whole : FnP K "is_whole" s_is_whole z.a_is_whole z.d_is_whole
  g_is_whole : mg "is_whole" = some (.ref z.a_is_whole)
  b_is_whole : Binds K z.d_is_whole ["thing"] []
  F_common_divisor : FnP K "common_divisor" s_common_divisor z.a_common_divisor z.d_common_divisor
  g_common_divisor : mg "common_divisor" = some (.ref z.a_common_divisor)
  b_common_divisor : Binds K z.d_common_divisor ["one", "other"] []
  F_short_row : FnP K "short_row" s_short_row z.a_short_row z.d_short_row
  g_short_row : mg "short_row" = some (.ref z.a_short_row)
  b_short_row : Binds K z.d_short_row ["modulus", "number", "most"] []
  F_inverse : FnP K "inverse" s_inverse z.a_inverse z.d_inverse
  g_inverse : mg "inverse" = some (.ref z.a_inverse)
  b_inverse : Binds K z.d_inverse ["number", "prime"] []
  F_is_pair : FnP K "is_pair" s_is_pair z.a_is_pair z.d_is_pair
  g_is_pair : mg "is_pair" = some (.ref z.a_is_pair)
  b_is_pair : Binds K z.d_is_pair ["thing"] []
  F_is_fraction : FnP K "is_fraction" s_is_fraction z.a_is_fraction z.d_is_fraction
  g_is_fraction : mg "is_fraction" = some (.ref z.a_is_fraction)
  b_is_fraction : Binds K z.d_is_fraction ["thing"] []
  F_is_prime : FnP K "is_prime" s_is_prime z.a_is_prime z.d_is_prime
  g_is_prime : mg "is_prime" = some (.ref z.a_is_prime)
  b_is_prime : Binds K z.d_is_prime ["thing"] []
  F_need_fraction : FnP K "need_fraction" s_need_fraction z.a_need_fraction z.d_need_fraction
  g_need_fraction : mg "need_fraction" = some (.ref z.a_need_fraction)
  b_need_fraction : Binds K z.d_need_fraction ["thing"] []
  F_need_prime : FnP K "need_prime" s_need_prime z.a_need_prime z.d_need_prime
  g_need_prime : mg "need_prime" = some (.ref z.a_need_prime)
  b_need_prime : Binds K z.d_need_prime ["thing"] []
  F_rest_by : FnP K "rest_by" s_rest_by z.a_rest_by z.d_rest_by
  g_rest_by : mg "rest_by" = some (.ref z.a_rest_by)
  b_rest_by : Binds K z.d_rest_by ["f", "p"] []
  F_rest_of : FnP K "rest_of" s_rest_of z.a_rest_of z.d_rest_of
  g_rest_of : mg "rest_of" = some (.ref z.a_rest_of)
  b_rest_of : Binds K z.d_rest_of ["f", "p"] []
  F_rests_of : FnP K "rests_of" s_rests_of z.a_rests_of z.d_rests_of
  g_rests_of : mg "rests_of" = some (.ref z.a_rests_of)
  b_rests_of : Binds K z.d_rests_of ["f", "primes"] []
  F__law_pool : FnP K "_law_pool" s__law_pool z.a__law_pool z.d__law_pool
  g__law_pool : mg "_law_pool" = some (.ref z.a__law_pool)
  b__law_pool : Binds K z.d__law_pool ["script", "k"] []
  F__law_take : FnP K "_law_take" s__law_take z.a__law_take z.d__law_take
  g__law_take : mg "_law_take" = some (.ref z.a__law_take)
  b__law_take : Binds K z.d__law_take ["pool", "many"] []
  F__law_far : FnP K "_law_far" s__law_far z.a__law_far z.d__law_far
  g__law_far : mg "_law_far" = some (.ref z.a__law_far)
  b__law_far : Binds K z.d__law_far ["pool", "turns"] []
  F__law_number : FnP K "_law_number" s__law_number z.a__law_number z.d__law_number
  g__law_number : mg "_law_number" = some (.ref z.a__law_number)
  b__law_number : Binds K z.d__law_number ["pool"] []
  F__law_all_primes : FnP K "_law_all_primes" s__law_all_primes z.a__law_all_primes z.d__law_all_primes
  g__law_all_primes : mg "_law_all_primes" = some (.ref z.a__law_all_primes)
  b__law_all_primes : Binds K z.d__law_all_primes [] []
  F__law_prime : FnP K "_law_prime" s__law_prime z.a__law_prime z.d__law_prime
  g__law_prime : mg "_law_prime" = some (.ref z.a__law_prime)
  b__law_prime : Binds K z.d__law_prime ["pool", "primes"] []
  F__law_shared : FnP K "_law_shared" s__law_shared z.a__law_shared z.d__law_shared
  g__law_shared : mg "_law_shared" = some (.ref z.a__law_shared)
  b__law_shared : Binds K z.d__law_shared ["one", "other"] []
  F__law_fraction : FnP K "_law_fraction" s__law_fraction z.a__law_fraction z.d__law_fraction
  g__law_fraction : mg "_law_fraction" = some (.ref z.a__law_fraction)
  b__law_fraction : Binds K z.d__law_fraction ["pool", "primes"] []
  F__law_right : FnP K "_law_right" s__law_right z.a__law_right z.d__law_right
  g__law_right : mg "_law_right" = some (.ref z.a__law_right)
  b__law_right : Binds K z.d__law_right ["f", "p", "found"] []
  F__law_list_right : FnP K "_law_list_right" s__law_list_right z.a__law_list_right z.d__law_list_right
  g__law_list_right : mg "_law_list_right" = some (.ref z.a__law_list_right)
  b__law_list_right : Binds K z.d__law_list_right ["f", "some"] []
  F_law : FnP K "law" s_law z.a_law z.d_law
  g_law : mg "law" = some (.ref z.a_law)
  b_law : Binds K z.d_law ["script"] []
  m_isinstance : mg "isinstance" = none
  m_bool : mg "bool" = none
  m_int : mg "int" = none
  m_len : mg "len" = none
  m_tuple : mg "tuple" = none
  m_list : mg "list" = none
  m_range : mg "range" = none
  m_abs : mg "abs" = none
  m_max : mg "max" = none
  m_min : mg "min" = none
  c_PRIME_LIMIT : mg "PRIME_LIMIT" = some (.int 1000 z.t_PRIME_LIMIT)
  k_BackError : mg "BackError" = some (.ref z.k_BackError)
  x_BackError : ExcFacts K z.k_BackError
  k_NoFraction : mg "NoFraction" = some (.ref z.k_NoFraction)
  x_NoFraction : ExcFacts K z.k_NoFraction
  k_NoPrime : mg "NoPrime" = some (.ref z.k_NoPrime)
  x_NoPrime : ExcFacts K z.k_NoPrime
section
variable {P : Program} {w : World} {K : PySem.W.Frag} {mg : Str → Option Value} {base : Heap} {z : Ad}
def sp_is_whole : Sp := fun vs H Q _ => ∃ v d, vs = [v] ∧ Dt H v d ∧ Q (.bl (dWhole d)) H
theorem ok_is_whole (T : Txt K mg z) : FnOk P w K mg base CX0 1 z.a_is_whole z.d_is_whole ["thing"] (sp_is_whole) := by
  refine T.F_is_whole.ok sc_is_whole (fun vs H Q E h => ?_) (fun cdv A outer s H vs Q E hr h => ?_)
  · obtain ⟨v, d, rfl, _⟩ := h
    rfl
  · obtain ⟨v, d, rfl, hd, q⟩ := h
    refine ⟨_, (PSs.nox (pss_one (ps_ret (pe_and (pe_callB (r := rIsi K) call_isi (by rfl) T.m_isinstance (by decide +kernel) (pa_cons (pv 0) (pa_cons (pe_bltn (v := .ty "int") (by rfl) T.m_int (by decide +kernel) rfl) pa_nil))) (pe_one (pe_not (pe_callB (r := rIsi K) call_isi (by rfl) T.m_isinstance (by decide +kernel) (pa_cons (pv 0) (pa_cons (pe_bltn (v := .ty "bool") (by rfl) T.m_bool (by decide +kernel) rfl) pa_nil))))))))), ?_⟩
    refine ⟨v, rfl, _, _, _, _, _, rfl, .ty _, (hd).ty, kit_ty ( kit_int d), dInt d, rfl, ?_⟩
    cases d with
    | int i => exact itT rfl ⟨v, rfl, _, _, _, _, _, rfl, .ty _, (hd).ty, kit_ty ( kit_bool _), _, rfl, q⟩
    | bool b => exact itT rfl ⟨v, rfl, _, _, _, _, _, rfl, .ty _, (hd).ty, kit_ty ( kit_bool _), _, rfl, q⟩
    | none => exact itF rfl q
    | str x => exact itF rfl q
    | list x => exact itF rfl q
    | tuple x => exact itF rfl q
    | dict x => exact itF rfl q
def sp_common_divisor : Sp := fun vs H Q _ => ∃ a b : Int, vs = [.int a, .int b] ∧ 0 < b ∧ Q (.int (Int.gcd a b)) H
theorem ok_common_divisor (T : Txt K mg z) : FnOk P w K mg base CX0 1 z.a_common_divisor z.d_common_divisor ["one", "other"] (sp_common_divisor) := by
  refine T.F_common_divisor.ok sc_common_divisor (fun vs H Q E h => ?_) (fun cdv A outer s H vs Q E hr h => ?_)
  · obtain ⟨a, b, rfl, _⟩ := h
    rfl
  · obtain ⟨a, b, rfl, hb, q⟩ := h
    refine ⟨_, (PSs.nox (pss_cons (ps_while PassesOwn.never (pt_cmpR op_ne (pv 1) pe_int (nomark _)) (pss_one (ps_par (i := 0) (j := 1) (by rfl) sc_common_divisor.nd rfl rfl (by decide) rfl rfl (pa_cons (pv 1) (pa_cons (pe_op op_mod (pv 0) (pv 1)) pa_nil)) (by rfl))))
      (pss_one (ps_ret (pv 0))))), ?_⟩
    refine ⟨fun m σ H' => ∃ x y : Int, σ = [some (.int x), some (.int y)] ∧ H' = H ∧ 0 ≤ y ∧ (y = 0 → 0 ≤ x) ∧ Int.gcd x y = Int.gcd a b ∧ m = y.toNat, ⟨b.toNat, a, b, rfl, rfl, by omega, by omega, rfl, rfl⟩, fun m σ H' hW => ?_⟩
    obtain ⟨x, y, rfl, rfl, hy, hx, hg, rfl⟩ := hW
    refine ⟨.int y, rfl, rfl, _, rfl, it2 (fun e => ?_) (fun e => ?_)⟩
    · rw [dI] at e
      have e : y ≠ 0 := by simpa using e
      refine ⟨fun σ2 H2 => σ2 = [some (.int y), some (.int (x % y))] ∧ H2 = H', fun σ2 H2 hn => ?_, ?_⟩
      · obtain ⟨rfl, rfl⟩ := hn
        have h1 : 0 ≤ x % y := Int.emod_nonneg x e
        have h2 : x % y < y := Int.emod_lt_of_pos x (by omega)
        exact ⟨(x % y).toNat, by omega, y, x % y, rfl, rfl, h1, by omega, by rw [gcd_step, hg], rfl⟩
      · refine ⟨.int y, rfl, .int x, rfl, .int y, rfl, x, y, rfl, rfl, (show (0 : Int) < y by omega), _, _, rfl, rfl, rfl⟩
    · rw [dI] at e
      have e : y = 0 := by simpa using e
      subst e
      have h0 := hx rfl
      refine ⟨.int x, rfl, ?_⟩
      rw [← hg, Int.gcd_zero_right] at q
      rw [show x = ((x.natAbs : Nat) : Int) by omega]
      exact q
def sp_short_row : Sp := fun vs H Q _ => ∃ m n k : Int, vs = [.int m, .int n, .int k] ∧ 0 ≤ n ∧ n < m ∧ 0 ≤ k ∧ m.natAbs < 2 ^ 250 ∧ ∀ l f p H', Row m n k l f → Ex H H' → H p = none → H' p = some (.tup [.int l, .int f]) → Q (.ref p) H'
theorem ok_short_row (T : Txt K mg z) : FnOk P w K mg base CX0 1 z.a_short_row z.d_short_row ["modulus", "number", "most"] (sp_short_row) := by
  refine T.F_short_row.ok sc_short_row (fun vs H Q E h => ?_) (fun cdv A outer s H vs Q E hr h => ?_)
  · obtain ⟨m, n, k, rfl, _⟩ := h
    rfl
  · obtain ⟨m, n, k, rfl, n0, n1, k0, hm, q⟩ := h
    refine ⟨_, (PSs.nox (pss_cons (ps_par (i := 3) (j := 4) (by rfl) sc_short_row.nd rfl rfl (by decide) rfl rfl (pa_cons (pv 0) (pa_cons (pv 1) pa_nil)) (by rfl))
      (pss_cons (ps_asg (pe_tup (pa_cons pe_int (pa_cons pe_int pa_nil))) (pg_tup (by rfl) (pgs_cons (pg_name (i := 5) sc_short_row.nd rfl (.inl rfl)) (pgs_cons (pg_name (i := 6) sc_short_row.nd rfl (.inl rfl)) pgs_nil))))
      (pss_cons (ps_while PassesOwn.never (pt_cmpR op_gt (pv 4) (pv 2) (nomark _)) (pss_cons (ps_set (i := 7) sc_short_row.nd rfl (.inl rfl) (pe_op op_fdivW (pv 3) (pv 4)))
      (pss_cons (ps_par (i := 3) (j := 4) (by rfl) sc_short_row.nd rfl rfl (by decide) rfl rfl (pa_cons (pv 4) (pa_cons (pe_op op_sub (pv 3) (pe_op op_mulW (pv 7) (pv 4))) pa_nil)) (by rfl))
      (pss_one (ps_par (i := 5) (j := 6) (by rfl) sc_short_row.nd rfl rfl (by decide) rfl rfl (pa_cons (pv 6) (pa_cons (pe_op op_sub (pv 5) (pe_op op_mulW (pv 7) (pv 6))) pa_nil)) (by rfl))))))
      (pss_one (ps_ret (pe_tup (pa_cons (pv 4) (pa_cons (pv 6) pa_nil))))))))), ?_⟩
    refine ⟨.int m, rfl, .int n, rfl, _, _, rfl, sz_of (Nat.le_of_ble_eq_true rfl), fun p0 hp0 => ?_⟩
    refine ⟨p0, _, rfl, .inl (.inl upd_same), rfl, .int 0, [.int 1], rfl, .int 1, [], rfl, rfl, ?_⟩
    have e0 : Ex H (upd H p0 (.tup [.int 0, .int 1])) := Ex.new hp0
    show tSeq _ _ _ _ (upd H p0 (.tup [.int 0, .int 1]))
    generalize upd H p0 (.tup [.int 0, .int 1]) = H0 at e0
    refine ⟨fun c σ H' => ∃ ab l fa f t ta s y7, σ = [some (.int m), some (.int n), some (.int k), some (.int ab), some (.int l), some (.int fa), some (.int f), y7] ∧ H' = H0 ∧ EInv m n ab l fa f t ta s ∧ (k < ab ∨ (f = 1 ∧ fa = 0 ∧ ab = m)) ∧ c = l.toNat,
      ⟨n.toNat, m, n, 0, 1, 0, 1, 1, none, rfl, rfl, ⟨by omega, by omega, by decide, .inl rfl, n0, n1, Int.le_refl _, by decide, by decide⟩, .inr ⟨rfl, rfl, rfl⟩, rfl⟩, fun c σ H' hW => ?_⟩
    obtain ⟨ab, l, fa, f, t, ta, s, y7, rfl, rfl, I, hx, rfl⟩ := hW
    refine ⟨.int l, rfl, .int k, rfl, l, k, rfl, rfl, _, rfl, it2 (fun e => ?_) (fun e => ?_)⟩
    · have e : k < l := of_decide_eq_true e
      have hl : 0 < l := by omega
      obtain ⟨z1, z2⟩ := I.size
      have z2 := z2 hl
      have la := I.la
      have am := I.am
      have w1 : l.natAbs < 2 ^ 250 := by omega
      have d0 : 0 ≤ ab / l := Int.ediv_nonneg (by omega) (by omega)
      have d1 : ab / l ≤ ab := Int.ediv_le_self l (show 0 ≤ ab by omega)
      have w2 : (ab / l).natAbs < 2 ^ 250 := by omega
      have w3 : f.natAbs < 2 ^ 250 := by omega
      refine ⟨fun σ2 H2 => σ2 = [some (.int m), some (.int n), some (.int k), some (.int l), some (.int (ab - ab / l * l)), some (.int f), some (.int (fa - ab / l * f)), some (.int (ab / l))] ∧ H2 = H', fun σ2 H2 hn => ?_, ?_⟩
      · obtain ⟨rfl, rfl⟩ := hn
        have I2 := I.step hl
        have l2 := I2.la
        have l3 := I2.l0
        exact ⟨(ab - ab / l * l).toNat, by omega, l, _, f, _, _, _, _, _, rfl, rfl, I2, .inl e, rfl⟩
      · refine ⟨.int ab, rfl, .int l, rfl, ab, l, rfl, rfl, wide_div (b := 250) hl w1 (by decide) (by decide), ?_⟩
        refine ⟨.int l, rfl, .int ab, rfl, .int (ab / l), rfl, .int l, rfl, _, _, rfl, rfl, wide_mul w2 w1 (by decide) (by decide) (by decide), _, _, rfl, rfl, _, _, rfl, ?_⟩
        exact ⟨.int f, rfl, .int fa, rfl, .int (ab / l), rfl, .int f, rfl, _, _, rfl, rfl, wide_mul w2 w3 (by decide) (by decide) (by decide), _, _, rfl, rfl, _, _, rfl, rfl, rfl⟩
    · have e : ¬ k < l := of_decide_eq_false e
      refine ⟨.int l, rfl, .int f, rfl, sz_of (Nat.le_of_ble_eq_true rfl), fun p hp => ?_⟩
      exact q l f p _ ⟨ab, fa, t, ta, s, I, by omega, hx⟩ (e0.trans (Ex.new hp)) (fresh_back e0 hp) upd_same
def sp_inverse : Sp := fun vs H Q _ => ∃ a p : Int, vs = [.int a, .int p] ∧ 1 < p ∧ p.natAbs < 2 ^ 250 ∧ Int.gcd a p = 1 ∧ ∀ r H', 0 ≤ r → r < p → r * a % p = 1 → Ex H H' → Q (.int r) H'
theorem ok_inverse (T : Txt K mg z) : FnOk P w K mg base CX0 2 z.a_inverse z.d_inverse ["number", "prime"] (sp_inverse) := by
  refine T.F_inverse.ok sc_inverse (fun vs H Q E h => ?_) (fun cdv A outer s H vs Q E hr h => ?_)
  · obtain ⟨a, p, rfl, _⟩ := h
    rfl
  · obtain ⟨a, p, rfl, hp, hz, hg, q⟩ := h
    refine ⟨_, (PSs.nox (pss_one (ps_ret (pe_op op_mod (pe_ix (r := rIxT K) ix_tup (pe_call (ok_short_row T) hr (by rfl) T.g_short_row T.F_short_row.kp T.b_short_row .nil pass0 (pa_cons (pv 1) (pa_cons (pe_op op_mod (pv 0) (pv 1)) (pa_cons pe_int pa_nil)))) pe_int (fun _ _ => rfl)) (pv 1))))), ?_⟩
    have m0 := Int.emod_nonneg a (show p ≠ 0 by omega)
    have m1 := Int.emod_lt_of_pos a (show 0 < p by omega)
    refine ⟨.int p, rfl, .int a, rfl, .int p, rfl, a, p, rfl, rfl, (show 0 < p by omega), p, a % p, 1, rfl, m0, m1, by decide, hz, fun l f t H1 hR e1 _ h1 => ?_⟩
    obtain ⟨_, hi⟩ := row_inv hR hp hg
    refine ⟨t, _, 1, .int f, rfl, rfl, .inl (.inl h1), rfl, .int p, rfl, f, p, rfl, rfl, (show 0 < p by omega), ?_⟩
    exact q _ H1 (Int.emod_nonneg f (by omega)) (Int.emod_lt_of_pos f (by omega)) hi e1
def sp_is_pair : Sp := fun vs H Q _ => ∃ v d, vs = [v] ∧ Dt H v d ∧ Q (.bl (dPair d)) H
theorem ok_is_pair (T : Txt K mg z) : FnOk P w K mg base CX0 1 z.a_is_pair z.d_is_pair ["thing"] (sp_is_pair) := by
  refine T.F_is_pair.ok sc_is_pair (fun vs H Q E h => ?_) (fun cdv A outer s H vs Q E hr h => ?_)
  · obtain ⟨v, d, rfl, _⟩ := h
    rfl
  · obtain ⟨v, d, rfl, hd, q⟩ := h
    refine ⟨_, (PSs.nox (pss_one (ps_ret (pe_and (pe_callB (r := rIsi K) call_isi (by rfl) T.m_isinstance (by decide +kernel) (pa_cons (pv 0) (pa_cons (pe_bltn (v := .ty "tuple") (by rfl) T.m_tuple (by decide +kernel) rfl) pa_nil))) (pe_one (pe_cmpR op_eq (pe_callB (r := rLenS K) call_len_seq (by rfl) T.m_len (by decide +kernel) (pa_cons (pv 0) pa_nil)) pe_int (nomark _))))))), ?_⟩
    refine ⟨v, rfl, _, _, _, _, _, rfl, .ty _, (hd).ty, kit_ty ( kit_tup d), dTup d, rfl, ?_⟩
    cases d with
    | tuple ds =>
      obtain ⟨a, xs, rfl, ha, hx⟩ := hd.tup_get
      refine itT rfl ⟨_, rfl, a, xs, rfl, .inr (.inl (.inl ha)), rfl, ?_⟩
      rw [dI, hx.len]
      have e : dPair (.tuple ds) = decide ((ds.length : Int) = 2) := by
        show decide (ds.length = 2) = _
        by_cases z : ds.length = 2
        · rw [decide_eq_true z, decide_eq_true (by omega)]
        · rw [decide_eq_false z, decide_eq_false (by omega)]
      rw [← e]
      exact q
    | int i => exact itF rfl q
    | bool b => exact itF rfl q
    | none => exact itF rfl q
    | str x => exact itF rfl q
    | list x => exact itF rfl q
    | dict x => exact itF rfl q
def sp_is_fraction : Sp := fun vs H Q _ => ∃ v d, vs = [v] ∧ Dt H v d ∧ Q (.bl (dFrac d)) H
theorem ok_is_fraction (T : Txt K mg z) : FnOk P w K mg base CX0 2 z.a_is_fraction z.d_is_fraction ["thing"] (sp_is_fraction) := by
  refine T.F_is_fraction.ok sc_is_fraction (fun vs H Q E h => ?_) (fun cdv A outer s H vs Q E hr h => ?_)
  · obtain ⟨v, d, rfl, _⟩ := h
    rfl
  · obtain ⟨v, d, rfl, hd, q⟩ := h
    refine ⟨_, (PSs.nox (pss_cons (ps_if (pt_not (pt_val (pe_call (ok_is_pair T) hr (by rfl) T.g_is_pair T.F_is_pair.kp T.b_is_pair .nil pass0 (pa_cons (pv 0) pa_nil)))) (pss_one (ps_ret pe_bl)) pss_nil)
      (pss_cons (ps_asg (pv 0) (pg_tup (by rfl) (pgs_cons (pg_name (i := 1) sc_is_fraction.nd rfl (.inl rfl)) (pgs_cons (pg_name (i := 2) sc_is_fraction.nd rfl (.inl rfl)) pgs_nil))))
      (pss_cons (ps_if (PW.pt (pw_or (pt_not (pt_val (pe_call (ok_is_whole T) hr (by rfl) T.g_is_whole T.F_is_whole.kp T.b_is_whole .nil pass0 (pa_cons (pv 1) pa_nil)))) (pw_or (pt_not (pt_val (pe_call (ok_is_whole T) hr (by rfl) T.g_is_whole T.F_is_whole.kp T.b_is_whole .nil pass0 (pa_cons (pv 2) pa_nil)))) (pw_or1 (pt_cmpR op_lt (pv 2) pe_int (nomark _)))))) (pss_one (ps_ret pe_bl)) pss_nil)
      (pss_one (ps_ret (pe_cmpR op_eq (pe_call (ok_common_divisor T) hr (by rfl) T.g_common_divisor T.F_common_divisor.kp T.b_common_divisor .nil pass0 (pa_cons (pv 1) (pa_cons (pv 2) pa_nil))) pe_int (nomark _)))))))), ?_⟩
    refine ⟨v, rfl, v, d, rfl, hd, _, rfl, it2 (fun e => ?_) (fun e => ?_)⟩
    · have e : dPair d = false := by simpa using e
      rw [dFrac_pair e] at q
      exact q
    · have e : dPair d = true := by simpa using e
      obtain ⟨d1, d2, rfl⟩ := dPair_get e
      obtain ⟨a, xs, rfl, ha, hx⟩ := hd.tup_get
      cases hx with
      | @cons x1 _ _ _ h1 hx => cases hx with
        | @cons x2 _ _ _ h2 hx =>
          cases hx
          refine ⟨.ref a, rfl, a, [x1, x2], rfl, .inl (.inl ha), rfl, x1, [x2], rfl, x2, [], rfl, rfl, ?_⟩
          refine ⟨x1, rfl, x1, d1, rfl, h1, _, rfl, it2 (fun e1 => ?_) (fun e1 => ?_)⟩
          · have z : dFrac (.tuple [d1, d2]) = false := by
              cases d1 <;> first | rfl | exact nomatch e1
            rw [z] at q
            exact itT rfl q
          · have e1 : dWhole d1 = true := by simpa using e1
            obtain ⟨n, rfl⟩ := dWhole_get e1
            cases h1
            refine ⟨x2, rfl, x2, d2, rfl, h2, _, rfl, it2 (fun e2 => ?_) (fun e2 => ?_)⟩
            · have z : dFrac (.tuple [.int n, d2]) = false := by
                cases d2 <;> first | rfl | exact nomatch e2
              rw [z] at q
              exact itT rfl q
            · have e2 : dWhole d2 = true := by simpa using e2
              obtain ⟨m, rfl⟩ := dWhole_get e2
              cases h2
              refine ⟨_, rfl, m, 1, rfl, rfl, _, rfl, it2 (fun e3 => ?_) (fun e3 => ?_)⟩
              · have e3 : m < 1 := of_decide_eq_true e3
                have z : dFrac (.tuple [.int n, .int m]) = false := by
                  show (decide (1 ≤ m) && decide (Int.gcd n m = 1)) = false
                  rw [decide_eq_false (by omega)]
                  rfl
                rw [z] at q
                exact q
              · have e3 : ¬ m < 1 := of_decide_eq_false e3
                refine ⟨_, rfl, _, rfl, n, m, rfl, by omega, rfl, ?_⟩
                have z : dFrac (.tuple [.int n, .int m]) = decide (V.int ((Int.gcd n m : Nat) : Int) = V.int 1) := by
                  show (decide (1 ≤ m) && decide (Int.gcd n m = 1)) = _
                  rw [decide_eq_true (by omega), Bool.true_and, dI]
                  by_cases y : Int.gcd n m = 1
                  · rw [decide_eq_true y, decide_eq_true (by omega)]
                  · rw [decide_eq_false y, decide_eq_false (by omega)]
                rw [z] at q
                exact q
def sp_is_prime : Sp := fun vs H Q _ => ∃ v d, vs = [v] ∧ Dt H v d ∧ Q (.bl (dPrime d)) H
theorem primeB_out {n : Int} (h : n < 2 ∨ 1000 ≤ n) : primeB n = false := by
  cases e : primeB n with
  | false => rfl
  | true =>
    have := primeB_lo e
    omega
theorem ok_is_prime (T : Txt K mg z) : FnOk P w K mg base CX0 2 z.a_is_prime z.d_is_prime ["thing"] (sp_is_prime) := by
  refine T.F_is_prime.ok sc_is_prime (fun vs H Q E h => ?_) (fun cdv A outer s H vs Q E hr h => ?_)
  · obtain ⟨v, d, rfl, _⟩ := h
    rfl
  · obtain ⟨v, d, rfl, hd, q⟩ := h
    refine ⟨_, (PSs.nox (pss_cons (ps_if (PW.pt (pw_or (pt_not (pt_val (pe_call (ok_is_whole T) hr (by rfl) T.g_is_whole T.F_is_whole.kp T.b_is_whole .nil pass0 (pa_cons (pv 0) pa_nil)))) (pw_or (pt_cmpR op_lt (pv 0) pe_int (nomark _)) (pw_or1 (pt_cmpR op_ge (pv 0) (pe_glob (v := .int 1000) (by rfl) T.c_PRIME_LIMIT ⟨_, rfl⟩) (nomark _)))))) (pss_one (ps_ret pe_bl)) pss_nil)
      (pss_cons (ps_set (i := 1) sc_is_prime.nd rfl (.inl rfl) pe_int)
      (pss_cons (ps_while PassesOwn.never (pt_cmpR op_le (pe_op op_mulW (pv 1) (pv 1)) (pv 0) (nomark _)) (pss_cons (ps_if (pt_cmpR op_eq (pe_op op_mod (pv 0) (pv 1)) pe_int (nomark _)) (pss_one (ps_ret pe_bl)) pss_nil)
      (pss_one (ps_aug (i := 1) sc_is_prime.nd rfl (.inl rfl) pe_int ip_add))))
      (pss_one (ps_ret pe_bl)))))), ?_⟩
    refine ⟨v, rfl, v, d, rfl, hd, _, rfl, it2 (fun e => ?_) (fun e => ?_)⟩
    · have z : dPrime d = false := by
        cases d <;> first | rfl | exact nomatch e
      rw [z] at q
      exact itT rfl q
    · have e : dWhole d = true := by simpa using e
      obtain ⟨n, rfl⟩ := dWhole_get e
      cases hd
      refine ⟨.int n, rfl, n, 2, rfl, rfl, _, rfl, it2 (fun e1 => ?_) (fun e1 => ?_)⟩
      · rw [show dPrime (.int n) = false from primeB_out (.inl (of_decide_eq_true e1))] at q
        exact itT rfl q
      · have e1 : ¬ n < 2 := of_decide_eq_false e1
        refine ⟨.int n, rfl, n, 1000, rfl, rfl, _, rfl, it2 (fun e2 => ?_) (fun e2 => ?_)⟩
        · rw [show dPrime (.int n) = false from primeB_out (.inr (of_decide_eq_true e2))] at q
          exact q
        · have e2 : ¬ (1000 : Int) ≤ n := of_decide_eq_false e2
          refine ⟨fun c σ H' => ∃ k : Int, σ = [some (.int n), some (.int k)] ∧ H' = H ∧ 2 ≤ k ∧ k ≤ 1000 ∧ (∀ j : Int, 2 ≤ j → j < k → n % j ≠ 0) ∧ c = (1000 - k).toNat, ⟨998, 2, rfl, rfl, by decide, by decide, fun j h1 h2 => by omega, rfl⟩, fun c σ H' hW => ?_⟩
          obtain ⟨k, rfl, rfl, k0, k1, hk, rfl⟩ := hW
          refine ⟨.int k, rfl, .int k, rfl, k, k, rfl, rfl, wide_mul (a := 20) (b := 20) (by omega) (by omega) (by decide) (by decide) (by decide), .int n, rfl, k * k, n, rfl, rfl, _, rfl, it2 (fun e3 => ?_) (fun e3 => ?_)⟩
          · have e3 : k * k ≤ n := of_decide_eq_true e3
            have hk2 : k < 1000 := by
              have : k * 2 ≤ k * k := Int.mul_le_mul_of_nonneg_left k0 (by omega)
              omega
            refine ⟨fun σ2 H2 => σ2 = [some (.int n), some (.int (k + 1))] ∧ H2 = H' ∧ n % k ≠ 0, fun σ2 H2 hn => ?_, ?_⟩
            · obtain ⟨rfl, rfl, hnk⟩ := hn
              refine ⟨(1000 - (k + 1)).toNat, by omega, k + 1, rfl, rfl, by omega, by omega, fun j h1 h2 => ?_, rfl⟩
              by_cases z : j = k
              · rw [z]
                exact hnk
              · exact hk j h1 (by omega)
            · refine ⟨.int n, rfl, .int k, rfl, n, k, rfl, rfl, (show 0 < k by omega), rfl, _, rfl, it2 (fun e4 => ?_) (fun e4 => ?_)⟩
              · rw [dI] at e4
                rw [show dPrime (.int n) = false from primeB_no k0 e3 (of_decide_eq_true e4)] at q
                exact q
              · rw [dI] at e4
                exact ⟨.int k, rfl, k, 1, rfl, rfl, rfl, rfl, of_decide_eq_false e4⟩
          · have e3 : ¬ k * k ≤ n := of_decide_eq_false e3
            rw [show dPrime (.int n) = true from primeB_yes (by omega) (by omega) k0 (by omega) hk] at q
            exact q
def sp_need_fraction : Sp := fun vs H Q _ => ∃ v d, vs = [v] ∧ Dt H v d ∧ dFrac d = true ∧ Q .non H
theorem ok_need_fraction (T : Txt K mg z) : FnOk P w K mg base CX0 3 z.a_need_fraction z.d_need_fraction ["thing"] (sp_need_fraction) := by
  refine T.F_need_fraction.ok sc_need_fraction (fun vs H Q E h => ?_) (fun cdv A outer s H vs Q E hr h => ?_)
  · obtain ⟨v, d, rfl, _⟩ := h
    rfl
  · obtain ⟨v, d, rfl, hd, e, q⟩ := h
    refine ⟨_, (PSs.nox (pss_one (ps_if (pt_not (pt_val (pe_call (ok_is_fraction T) hr (by rfl) T.g_is_fraction T.F_is_fraction.kp T.b_is_fraction .nil pass0 (pa_cons (pv 0) pa_nil)))) (pss_one (ps_never)) pss_nil))), ?_⟩
    refine ⟨v, rfl, v, d, rfl, hd, _, rfl, ?_⟩
    rw [e]
    exact itF rfl q
def sp_need_prime : Sp := fun vs H Q _ => ∃ v d, vs = [v] ∧ Dt H v d ∧ dPrime d = true ∧ Q .non H
theorem ok_need_prime (T : Txt K mg z) : FnOk P w K mg base CX0 3 z.a_need_prime z.d_need_prime ["thing"] (sp_need_prime) := by
  refine T.F_need_prime.ok sc_need_prime (fun vs H Q E h => ?_) (fun cdv A outer s H vs Q E hr h => ?_)
  · obtain ⟨v, d, rfl, _⟩ := h
    rfl
  · obtain ⟨v, d, rfl, hd, e, q⟩ := h
    refine ⟨_, (PSs.nox (pss_one (ps_if (pt_not (pt_val (pe_call (ok_is_prime T) hr (by rfl) T.g_is_prime T.F_is_prime.kp T.b_is_prime .nil pass0 (pa_cons (pv 0) pa_nil)))) (pss_one (ps_never)) pss_nil))), ?_⟩
    refine ⟨v, rfl, v, d, rfl, hd, _, rfl, ?_⟩
    rw [e]
    exact itF rfl q
def sp_rest_by : Sp := fun vs H Q _ => ∃ (v : V) (t b p : Int), vs = [v, .int p] ∧ Dt H v (.tuple [.int t, .int b]) ∧ t.natAbs < 2 ^ 250 ∧ primeB p = true ∧ ∀ v' H', Ex H H' → Dt H' v' (restD t b p) → Q v' H'
theorem ok_rest_by (T : Txt K mg z) : FnOk P w K mg base CX0 3 z.a_rest_by z.d_rest_by ["f", "p"] (sp_rest_by) := by
  refine T.F_rest_by.ok sc_rest_by (fun vs H Q E h => ?_) (fun cdv A outer s H vs Q E hr h => ?_)
  · obtain ⟨v, t, b, p, rfl, _⟩ := h
    rfl
  · obtain ⟨v, t, b, p, rfl, hd, ht, hp, q⟩ := h
    obtain ⟨a, xs, rfl, ha, hx⟩ := hd.tup_get
    have ex := DtAll.ints_eq [t, b] hx
    subst ex
    have lo := primeB_lo hp
    refine ⟨_, (PSs.nox (pss_cons (ps_asg (pv 0) (pg_tup (by rfl) (pgs_cons (pg_name (i := 2) sc_rest_by.nd rfl (.inl rfl)) (pgs_cons (pg_name (i := 3) sc_rest_by.nd rfl (.inl rfl)) pgs_nil))))
      (pss_cons (ps_if (pt_cmpR op_eq (pe_op op_mod (pv 3) (pv 1)) pe_int (nomark _)) (pss_one (ps_ret pe_non)) pss_nil)
      (pss_one (ps_ret (pe_op op_mod (pe_op op_mulW (pv 2) (pe_call (ok_inverse T) hr (by rfl) T.g_inverse T.F_inverse.kp T.b_inverse .nil pass0 (pa_cons (pv 3) (pa_cons (pv 1) pa_nil)))) (pv 1))))))), ?_⟩
    refine ⟨.ref a, rfl, a, _, rfl, .inl (.inl ha), rfl, .int t, [.int b], rfl, .int b, [], rfl, rfl, ?_⟩
    refine ⟨.int b, rfl, .int p, rfl, b, p, rfl, rfl, (show 0 < p by omega), rfl, _, rfl, it2 (fun e => ?_) (fun e => ?_)⟩
    · rw [dI] at e
      have e : b % p = 0 := of_decide_eq_true e
      refine q _ H (Ex.refl H) ?_
      unfold restD
      rw [if_pos e]
      exact .non
    · rw [dI] at e
      have e : b % p ≠ 0 := of_decide_eq_false e
      refine ⟨.int t, rfl, .int b, rfl, .int p, rfl, b, p, rfl, by omega, Nat.lt_of_lt_of_le (show p.natAbs < 2 ^ 20 by omega) (by decide), primeB_gcd hp e, fun r H1 r0 r1 hr e1 => ?_⟩
      obtain ⟨h1, h2, h3, h4⟩ := rest_ok (t := t) hp e hr
      refine ⟨t, r, rfl, rfl, wide_mul (a := 250) (b := 20) ht (by omega) (by decide) (by decide) (by decide), .int p, rfl, t * r, p, rfl, rfl, (show 0 < p by omega), q _ H1 e1 ?_⟩
      rw [h1]
      exact .int _
def sp_rest_of : Sp := fun vs H Q _ => ∃ (v : V) (t b p : Int), vs = [v, .int p] ∧ Dt H v (.tuple [.int t, .int b]) ∧ 1 ≤ b ∧ Int.gcd t b = 1 ∧ t.natAbs < 2 ^ 250 ∧ primeB p = true ∧ ∀ v' H', Ex H H' → Dt H' v' (restD t b p) → Q v' H'
theorem ok_rest_of (T : Txt K mg z) : FnOk P w K mg base CX0 4 z.a_rest_of z.d_rest_of ["f", "p"] (sp_rest_of) := by
  refine T.F_rest_of.ok sc_rest_of (fun vs H Q E h => ?_) (fun cdv A outer s H vs Q E hr h => ?_)
  · obtain ⟨v, t, b, p, rfl, _⟩ := h
    rfl
  · obtain ⟨v, t, b, p, rfl, hd, hb, hg, ht, hp, q⟩ := h
    refine ⟨_, (PSs.nox (pss_cons (ps_expr (pe_call (ok_need_fraction T) hr (by rfl) T.g_need_fraction T.F_need_fraction.kp T.b_need_fraction .nil pass0 (pa_cons (pv 0) pa_nil)))
      (pss_cons (ps_expr (pe_call (ok_need_prime T) hr (by rfl) T.g_need_prime T.F_need_prime.kp T.b_need_prime .nil pass0 (pa_cons (pv 1) pa_nil)))
      (pss_one (ps_ret (pe_call (ok_rest_by T) hr (by rfl) T.g_rest_by T.F_rest_by.kp T.b_rest_by .nil pass0 (pa_cons (pv 0) (pa_cons (pv 1) pa_nil)))))))), ?_⟩
    refine ⟨v, rfl, v, _, rfl, hd, dFrac_of hb hg, ?_⟩
    refine ⟨.int p, rfl, .int p, .int p, rfl, .int p, hp, ?_⟩
    exact ⟨v, rfl, .int p, rfl, v, t, b, p, rfl, hd, ht, hp, q⟩
theorem restD_noL (t b p : Int) : noL (restD t b p) = true := by
  unfold restD
  split <;> rfl
def sp_rests_of : Sp := fun vs H Q _ => ∃ (v : V) (a : Addr) (t b : Int) (ps : List Int), vs = [v, .ref a] ∧ Dt H v (.tuple [.int t, .int b]) ∧ 1 ≤ b ∧ Int.gcd t b = 1 ∧ t.natAbs < 2 ^ 250 ∧
  H a = some (.lst (ps.map V.int)) ∧ ps.length ≤ 10000 ∧ (∀ p ∈ ps, primeB p = true) ∧ ∀ p H', H p = none → Ex H H' → AccL H' p (ps.map fun p => restD t b p) → Q (.ref p) H'
theorem ok_rests_of (T : Txt K mg z) : FnOk P w K mg base CX0 4 z.a_rests_of z.d_rests_of ["f", "primes"] (sp_rests_of) := by
  refine T.F_rests_of.ok sc_rests_of (fun vs H Q E h => ?_) (fun cdv A outer s H vs Q E hr h => ?_)
  · obtain ⟨v, a, t, b, ps, rfl, _⟩ := h
    rfl
  · obtain ⟨v, a, t, b, ps, rfl, hd, hb, hg, ht, ha, hl, hp, q⟩ := h
    refine ⟨_, (PSs.nox (pss_cons (ps_expr (pe_call (ok_need_fraction T) hr (by rfl) T.g_need_fraction T.F_need_fraction.kp T.b_need_fraction .nil pass0 (pa_cons (pv 0) pa_nil)))
      (pss_cons (ps_if (pt_not (pt_val (pe_callB (r := rIsi K) call_isi (by rfl) T.m_isinstance (by decide +kernel) (pa_cons (pv 1) (pa_cons (pe_bltn (v := .ty "list") (by rfl) T.m_list (by decide +kernel) rfl) pa_nil))))) (pss_one (ps_never)) pss_nil)
      (pss_cons (ps_for PassesOwn.never rfl (pi_listK K (pv 1)) (pg_name (i := 2) sc_rests_of.nd rfl (.inl rfl)) (pss_one (ps_expr (pe_call (ok_need_prime T) hr (by rfl) T.g_need_prime T.F_need_prime.kp T.b_need_prime .nil pass0 (pa_cons (pv 2) pa_nil)))))
      (pss_one (ps_ret (pe_lc (own := [("p", 2)]) (by rfl) sc_rests_of.nd (pi_listK K (pv 1)) (blkOk_by (own := [("p", 2)]) (N := N_rests_of) (sc := (defScope s_rests_of)) (by decide +kernel)) (fun _ _ _ _ _ => (pg_name (i := 2) sc_rests_of.nd rfl (.inl rfl))) (fun _ _ _ _ _ => pts_nil) (fun _ _ _ _ _ => (pe_call (ok_rest_by T) hr (by rfl) T.g_rest_by T.F_rest_by.kp T.b_rest_by .nil pass0 (pa_cons (pv 0) (pa_cons (pv 2) pa_nil))))))))))), ?_⟩
    refine ⟨v, rfl, v, _, rfl, hd, dFrac_of hb hg, ?_⟩
    have hda : Dt H (.ref a) (.list (ps.map PyData.int)) := .lst ha (DtAll.ints ps)
    refine ⟨.ref a, rfl, _, _, _, _, _, rfl, .ty _, (hda).ty, kit_ty ( kit_lst _), true, rfl, itF rfl ?_⟩
    refine ⟨.ref a, rfl, a, rfl, ⟨_, .inl (.inl ha)⟩, for_list (xs := ps.map V.int) (fun i σ H' => (∃ y2, σ = [some v, some (.ref a), y2]) ∧ H' = H) ⟨⟨none, rfl⟩, rfl⟩ (fun i σ H' _ hP => by rw [hP.2]; exact .inl (.inl ha)) (fun i x σ H' hi hP => ?_) (fun σ H' hP => ?_)⟩
    · obtain ⟨⟨y2, rfl⟩, rfl⟩ := hP
      have hm := List.mem_of_getElem? hi
      obtain ⟨p, hpm, rfl⟩ := List.mem_map.mp hm
      exact ⟨.int p, rfl, .int p, .int p, rfl, .int p, hp p hpm, ⟨_, rfl⟩, rfl⟩
    · obtain ⟨⟨y2, rfl⟩, rfl⟩ := hP
      have e : ps.map (fun p => restD t b p) = ((ps.map PyData.int).filter fun _ => true).map fun x => restD t b (dI0 x) := by
        rw [List.filter_eq_self.mpr (fun _ _ => rfl), List.map_map]
        rfl
      rw [e] at q
      dsimp only
      refine s_retN (en_lcD (H := H') (ds := ps.map PyData.int) (fun _ => true) (fun x => restD t b (dI0 x)) ?hs ?hz ?hw ?ht ?he ?hn) ?hq
      case hq => exact q
      case hs => exact ed_var rfl hda
      case hz =>
        rw [List.length_map]
        omega
      case hw => exact fun _ => rfl
      case ht => exact fun H1 v d _ _ _ H2 _ Q' q' => q' H2 (Ex.refl H2)
      case hn => exact fun d _ _ => restD_noL t b (dI0 d)
      case he =>
        intro H1 v1 d e1 hm hv _ H2 e2 Q' q'
        obtain ⟨p, hpm, rfl⟩ := List.mem_map.mp hm
        cases hv
        exact ⟨v, rfl, .int p, rfl, v, t, b, p, rfl, hd.up (e1.trans e2), ht, hp p hpm, q'⟩
def sp__law_pool (K : PySem.W.Frag) : Sp := fun vs H Q _ => ∃ (sa : Addr) (ns : List Int) (k : Int), vs = [.ref sa, .int k] ∧ SqL K H sa (ns.map V.int) ∧ 0 ≤ k ∧ k < 100 ∧
  ∀ p H', H p = none → Ex H H' → PoolB H' p 1000000000 → Q (.ref p) H'
theorem ok__law_pool (T : Txt K mg z) : FnOk P w K mg base CX0 1 z.a__law_pool z.d__law_pool ["script", "k"] (sp__law_pool K) := by
  refine T.F__law_pool.ok sc__law_pool (fun vs H Q E h => ?_) (fun cdv A outer s H vs Q E hr h => ?_)
  · obtain ⟨sa, ns, k, rfl, _⟩ := h
    rfl
  · obtain ⟨sa, ns, k, rfl, hS, hk, hk2, q⟩ := h
    refine ⟨_, (PSs.nox (pss_cons (ps_set (i := 2) sc__law_pool.nd rfl (.inl rfl) pe_int)
      (pss_cons (ps_if (pt_cmpR op_lt (pv 1) (pe_callB (r := rLenS K) call_len_seq (by rfl) T.m_len (by decide +kernel) (pa_cons (pv 0) pa_nil)) (nomark _)) (pss_one (ps_set (i := 2) sc__law_pool.nd rfl (.inl rfl) (pe_ix (r := rIxL K) ix_list (pv 0) (pv 1) (fun _ _ => rfl)))) pss_nil)
      (pss_cons (ps_if (pt_cmpR op_ge (pv 2) (pe_op op_pow pe_int pe_int) (nomark _)) (pss_one (ps_ret (pe_lst (pa_cons (pe_op op_sub (pv 2) (pe_op op_pow pe_int pe_int)) (pa_cons pe_int (pa_cons pe_int pa_nil)))))) pss_nil)
      (pss_one (ps_ret (pe_lst (pa_cons (pv 2) (pa_cons pe_int (pa_cons (pe_op op_mul pe_int (pv 1)) pa_nil)))))))))), ?_⟩
    have fin : ∀ cell : Int, (tSeq (tIfS (tTest (tOp (rI0 fun i j => .bl (decide (j ≤ i))) (tVar 2) (tOp (rI CPow fun i j => .int (i ^ j.toNat)) (tC (.int 10)) (tC (.int 18))))) (tRet (tLst (tCons (tOp (rI0 fun i j => .int (i - j)) (tVar 2) (tOp (rI CPow fun i j => .int (i ^ j.toNat)) (tC (.int 10)) (tC (.int 18)))) (tCons (tC (.int 1)) (tCons (tC (.int 0)) tNil))))) tNext) (tRet (tLst (tCons (tVar 2) (tCons (tC (.int 0)) (tCons (tOp (rI CMul fun i j => .int (i * j)) (tC (.int 61)) (tVar 1)) tNil)))))) { nx := fun _ H' => Q .non H', rt := Q } [some (.ref sa), some (.int k), some (.int cell)] H := by
      intro cell
      refine ⟨.int cell, rfl, 10, 18, rfl, rfl, ⟨by decide, by decide, by decide⟩, cell, _, rfl, rfl, _, rfl, it2 (fun e => ?_) (fun e => ?_)⟩
      · refine ⟨.int cell, rfl, 10, 18, rfl, rfl, ⟨by decide, by decide, by decide⟩, cell, _, rfl, rfl, sz_of (Nat.le_of_ble_eq_true rfl), fun p hp => ?_⟩
        exact q p _ hp (Ex.new hp) ⟨_, _, _, upd_same, by decide, by decide⟩
      · refine ⟨.int cell, rfl, .int k, rfl, 61, k, rfl, rfl, .inl ⟨by decide, by decide⟩, sz_of (Nat.le_of_ble_eq_true rfl), fun p hp => ?_⟩
        exact q p _ hp (Ex.new hp) ⟨_, _, _, upd_same, by omega, by omega⟩
    refine ⟨.int k, rfl, .ref sa, rfl, sa, _, rfl, .inl hS, k, _, rfl, rfl, _, rfl, it2 (fun e => ?_) (fun e => ?_)⟩
    · have e : k < ((ns.map V.int).length : Int) := of_decide_eq_true e
      rw [List.length_map] at e
      obtain ⟨cell, g⟩ : ∃ cell, (ns.map V.int)[k.toNat]? = some (.int cell) := by
        refine ⟨ns[k.toNat]'(by omega), ?_⟩
        rw [List.getElem?_map, List.getElem?_eq_getElem (by omega)]
        rfl
      refine ⟨.ref sa, rfl, .int k, rfl, sa, _, k, .int cell, rfl, rfl, hS, ?_, fin cell⟩
      have z : k = ((k.toNat : Nat) : Int) := by omega
      rw [z]
      exact atI_nat (j := k.toNat) g
    · exact fin 0
def sp__law_take : Sp := fun vs H Q _ => ∃ (pa : Addr) (m : Int) (n : Nat), vs = [.ref pa, .int m] ∧ 0 < m ∧ m < 1099511627776 ∧ PoolB H pa (n + 1) ∧
  ∀ v H', 0 ≤ v → v < m → PoolB H' pa n → ExB pa H H' → Q (.int v) H'
theorem ok__law_take (T : Txt K mg z) : FnOk P w K mg base CX0 1 z.a__law_take z.d__law_take ["pool", "many"] (sp__law_take) := by
  refine T.F__law_take.ok sc__law_take (fun vs H Q E h => ?_) (fun cdv A outer s H vs Q E hr h => ?_)
  · obtain ⟨pa, m, n, rfl, _⟩ := h
    rfl
  · obtain ⟨pa, m, n, rfl, hm, hm2, ⟨a, b, c, hp, hc, hn⟩, q⟩ := h
    have hS : SqL K H pa [.int a, .int b, .int c] := .inl (.inl hp)
    refine ⟨_, (PSs.nox (pss_cons (ps_if (pt_cmpR op_eq (pe_ix (r := rIxL K) ix_list (pv 0) pe_int (fun _ _ => rfl)) pe_int (nomark _)) (pss_cons (ps_set (i := 2) sc__law_take.nd rfl (.inl rfl) (pe_op op_mod (pe_ix (r := rIxL K) ix_list (pv 0) pe_int (fun _ _ => rfl)) (pv 1)))
      (pss_cons (ps_asg (pe_op op_fdivW (pe_ix (r := rIxL K) ix_list (pv 0) pe_int (fun _ _ => rfl)) (pv 1)) (pg_sub (pv 0) pe_int set_list))
      (pss_one (ps_ret (pv 2))))) pss_nil)
      (pss_cons (ps_asg (pe_op op_add (pe_ix (r := rIxL K) ix_list (pv 0) pe_int (fun _ _ => rfl)) pe_int) (pg_sub (pv 0) pe_int set_list))
      (pss_cons (ps_set (i := 3) sc__law_take.nd rfl (.inl rfl) (pe_ix (r := rIxL K) ix_list (pv 0) pe_int (fun _ _ => rfl)))
      (pss_cons (ps_set (i := 4) sc__law_take.nd rfl (.inl rfl) (pe_op op_mulW (pe_op op_add (pe_op op_mod (pe_ix (r := rIxL K) ix_list (pv 0) pe_int (fun _ _ => rfl)) pe_int) pe_int) (pe_op op_add (pe_op op_mul pe_int (pv 3)) pe_int)))
      (pss_cons (ps_set (i := 4) sc__law_take.nd rfl (.inl rfl) (pe_op op_add (pv 4) (pe_op op_mulW (pe_op op_mul pe_int (pv 3)) (pv 3))))
      (pss_cons (ps_set (i := 4) sc__law_take.nd rfl (.inl rfl) (pe_op op_mod (pe_op op_mulW (pv 4) (pv 4)) pe_int))
      (pss_one (ps_ret (pe_op op_mod (pe_op op_fdivW (pe_op op_mod (pe_op op_mulW (pv 4) (pe_op op_add (pv 4) pe_int)) pe_int) pe_int) (pv 1))))))))))), ?_⟩
    refine ⟨.ref pa, rfl, pa, _, 1, .int b, rfl, rfl, hS, rfl, rfl, _, rfl, it2 (fun e => ?_) (fun e => ?_)⟩
    · refine ⟨.ref pa, rfl, pa, _, 0, .int a, rfl, rfl, hS, rfl, .int m, rfl, a, m, rfl, rfl, hm, ?_⟩
      refine ⟨.ref pa, rfl, pa, _, 0, .int a, rfl, rfl, hS, rfl, .int m, rfl, a, m, rfl, rfl, wide_div (b := 40) hm (by omega) (by decide) (by decide), ?_⟩
      refine ⟨.ref pa, rfl, pa, _, 0, 0, rfl, rfl, hp, rfl, ?_⟩
      exact ⟨_, rfl, q _ _ (Int.emod_nonneg a (by omega)) (Int.emod_lt_of_pos a hm) ⟨a / m, b, c, upd_same, hc, by omega⟩ ExB.upd⟩
    · refine ⟨.ref pa, rfl, pa, _, 2, .int c, rfl, rfl, hS, rfl, c, 1, rfl, rfl, ?_⟩
      refine ⟨.ref pa, rfl, pa, _, 2, 2, rfl, rfl, hp, rfl, ?_⟩
      generalize hH2 : upd H pa _ = H2
      have hp2 : H2 pa = some (.lst [.int a, .int b, .int (c + 1)]) := by
        rw [← hH2]
        exact upd_same
      have e2 : ExB pa H H2 := by
        rw [← hH2]
        exact ExB.upd
      have hS2 : SqL K H2 pa [.int a, .int b, .int (c + 1)] := .inl (.inl hp2)
      refine ⟨.ref pa, rfl, pa, _, 2, .int (c + 1), rfl, rfl, hS2, rfl, ?_⟩
      have m1 := Int.emod_nonneg a (show (9999999517 : Int) ≠ 0 by decide)
      have m2 := Int.emod_lt_of_pos a (show (0 : Int) < 9999999517 by decide)
      have w1 : (a % 9999999517 + 1031).natAbs < 2 ^ 40 := by omega
      have w2 : (53 * (c + 1) + 83).natAbs < 2 ^ 60 := by omega
      have w3 : (3607 * (c + 1)).natAbs < 2 ^ 60 := by omega
      have w4 : (c + 1).natAbs < 2 ^ 60 := by omega
      refine ⟨.ref pa, rfl, pa, _, 0, .int a, rfl, rfl, hS2, rfl, a, _, rfl, rfl, (show (0 : Int) < 9999999517 by decide), _, _, rfl, rfl, .int (c + 1), rfl, _, _, rfl, rfl, .inl ⟨by decide, by decide⟩, _, _, rfl, rfl, _, _, rfl, rfl, wide_mul w1 w2 (by decide) (by decide) (by decide), ?_⟩
      have w5 := wide_lt w1 w2
      try dsimp only
      generalize (a % 9999999517 + 1031) * (53 * (c + 1) + 83) = k1 at w5 ⊢
      refine ⟨.int k1, rfl, .int (c + 1), rfl, _, _, rfl, rfl, .inl ⟨by decide, by decide⟩, .int (c + 1), rfl, _, _, rfl, rfl, wide_mul w3 w4 (by decide) (by decide) (by decide), _, _, rfl, rfl, ?_⟩
      have w6 := wide_lt w3 w4
      try dsimp only
      generalize 3607 * (c + 1) * (c + 1) = k2 at w6 ⊢
      have w7 : (k1 + k2).natAbs < 2 ^ 130 := by omega
      try dsimp only
      generalize k1 + k2 = k3 at w7 ⊢
      refine ⟨.int k3, rfl, .int k3, rfl, _, _, rfl, rfl, wide_mul w7 w7 (by decide) (by decide) (by decide), _, _, rfl, rfl, (show (0 : Int) < 99999999563 by decide), ?_⟩
      have m3 := Int.emod_nonneg (k3 * k3) (show (99999999563 : Int) ≠ 0 by decide)
      have m4 := Int.emod_lt_of_pos (k3 * k3) (show (0 : Int) < 99999999563 by decide)
      try dsimp only
      generalize k3 * k3 % 99999999563 = k4 at m3 m4 ⊢
      have w8 : k4.natAbs < 2 ^ 40 := by omega
      have w9 : (k4 + 67).natAbs < 2 ^ 40 := by omega
      refine ⟨.int k4, rfl, .int k4, rfl, _, _, rfl, rfl, _, _, rfl, rfl, wide_mul w8 w9 (by decide) (by decide) (by decide), _, _, rfl, rfl, (show (0 : Int) < 99999999853 by decide), _, _, rfl, rfl, wide_div (b := 40) (by decide) (by decide) (by decide) (by decide), .int m, rfl, _, _, rfl, rfl, hm, ?_⟩
      exact q _ _ (Int.emod_nonneg _ (by omega)) (Int.emod_lt_of_pos _ hm) ⟨a, b, c + 1, hp2, by omega, by omega⟩ e2
def sp__law_far : Sp := fun vs H Q _ => ∃ (pa : Addr) (m n : Nat), vs = [.ref pa, .int (m : Int)] ∧ m ≤ 5 ∧ PoolB H pa (n + m) ∧ ∀ v H', 0 ≤ v → v < big m → PoolB H' pa n → ExB pa H H' → Q (.int v) H'
theorem ok__law_far (T : Txt K mg z) : FnOk P w K mg base CX0 2 z.a__law_far z.d__law_far ["pool", "turns"] (sp__law_far) := by
  refine T.F__law_far.ok sc__law_far (fun vs H Q E h => ?_) (fun cdv A outer s H vs Q E hr h => ?_)
  · obtain ⟨pa, m, n, rfl, _⟩ := h
    rfl
  · obtain ⟨pa, m, n, rfl, hm, pb, q⟩ := h
    refine ⟨_, (PSs.nox (pss_cons (ps_set (i := 2) sc__law_far.nd rfl (.inl rfl) pe_int)
      (pss_cons (ps_for PassesOwn.never rfl (pi_range1 (by rfl) T.m_range (pa_cons (pv 1) pa_nil)) (pg_name (i := 3) sc__law_far.nd rfl (.inl rfl)) (pss_one (ps_set (i := 2) sc__law_far.nd rfl (.inl rfl) (pe_op op_add (pe_op op_mulW (pv 2) (pe_op op_pow pe_int pe_int)) (pe_call (ok__law_take T) hr (by rfl) T.g__law_take T.F__law_take.kp T.b__law_take .nil pass0 (pa_cons (pv 0) (pa_cons (pe_op op_pow pe_int pe_int) pa_nil)))))))
      (pss_one (ps_ret (pv 2)))))), ?_⟩
    refine ⟨.int (m : Int), rfl, (m : Int), rfl, by omega, by omega, for_range (lo := 0) (n := (m : Int).toNat) (fun i σ H' => (∃ v y3, σ = [some (.ref pa), some (.int (m : Int)), some (.int v), y3] ∧ 0 ≤ v ∧ v < big i) ∧ i ≤ m ∧ PoolB H' pa (n + (m - i)) ∧ ExB pa H H') ⟨⟨0, none, rfl, by decide, by decide⟩, Nat.zero_le _, pb, ExB.refl _ _⟩ (fun i σ H1 hi hP => ?_) (fun σ H1 hP => ?_)⟩
    · obtain ⟨⟨v, y3, rfl, v0, v1⟩, hi2, pb1, e1⟩ := hP
      have hi3 : i < m := by omega
      have hb := big_le i (by omega)
      refine ⟨.int v, rfl, 10, 6, rfl, rfl, ⟨by decide, by decide, by decide⟩, v, 10 ^ (6 : Int).toNat, rfl, rfl, wide_mul (a := 100) (b := 20) (by omega) (by decide) (by decide) (by decide) (by decide), ?_⟩
      refine ⟨.ref pa, rfl, 10, 6, rfl, rfl, ⟨by decide, by decide, by decide⟩, pa, 10 ^ (6 : Int).toNat, n + (m - (i + 1)), rfl, by decide, by decide, ?_, fun w H2 w0 w1 pb2 e2 => ?_⟩
      · rw [show n + (m - (i + 1)) + 1 = n + (m - i) by omega]
        exact pb1
      · have w1 : w < 1000000 := w1
        obtain ⟨g0, g1⟩ := big_far v0 v1 w0 w1
        exact ⟨_, _, rfl, rfl, ⟨v * 1000000 + w, _, rfl, g0, g1⟩, hi3, pb2, e1.trans e2⟩
    · obtain ⟨⟨v, y3, rfl, v0, v1⟩, hi2, pb1, e1⟩ := hP
      rw [show (m : Int).toNat = m by omega] at v1 pb1
      rw [show n + (m - m) = n by omega] at pb1
      exact ⟨.int v, rfl, q v H1 v0 v1 pb1 e1⟩
def sp__law_number : Sp := fun vs H Q _ => ∃ (pa : Addr) (n : Nat), vs = [.ref pa] ∧ PoolB H pa (n + 6) ∧ ∀ v H', 0 ≤ v → v < 1000000000000000000000000000000 → PoolB H' pa n → ExB pa H H' → Q (.int v) H'
theorem ok__law_number (T : Txt K mg z) : FnOk P w K mg base CX0 3 z.a__law_number z.d__law_number ["pool"] (sp__law_number) := by
  refine T.F__law_number.ok sc__law_number (fun vs H Q E h => ?_) (fun cdv A outer s H vs Q E hr h => ?_)
  · obtain ⟨pa, n, rfl, _⟩ := h
    rfl
  · obtain ⟨pa, n, rfl, pb, q⟩ := h
    refine ⟨_, (PSs.nox (pss_cons (ps_set (i := 1) sc__law_number.nd rfl (.inl rfl) (pe_call (ok__law_take T) (hr.mono (by decide)) (by rfl) T.g__law_take T.F__law_take.kp T.b__law_take .nil pass0 (pa_cons (pv 0) (pa_cons pe_int pa_nil))))
      (pss_cons (ps_if (pt_cmpR op_lt (pv 1) pe_int (nomark _)) (pss_one (ps_ret (pe_call (ok__law_take T) (hr.mono (by decide)) (by rfl) T.g__law_take T.F__law_take.kp T.b__law_take .nil pass0 (pa_cons (pv 0) (pa_cons pe_int pa_nil))))) pss_nil)
      (pss_cons (ps_if (pt_cmpR op_eq (pv 1) pe_int (nomark _)) (pss_one (ps_ret (pe_call (ok__law_take T) (hr.mono (by decide)) (by rfl) T.g__law_take T.F__law_take.kp T.b__law_take .nil pass0 (pa_cons (pv 0) (pa_cons pe_int pa_nil))))) pss_nil)
      (pss_cons (ps_if (pt_cmpR op_eq (pv 1) pe_int (nomark _)) (pss_one (ps_ret (pe_op op_sub (pe_op op_sub (pe_op op_pow pe_int pe_int) pe_int) (pe_call (ok__law_take T) (hr.mono (by decide)) (by rfl) T.g__law_take T.F__law_take.kp T.b__law_take .nil pass0 (pa_cons (pv 0) (pa_cons pe_int pa_nil)))))) pss_nil)
      (pss_one (ps_ret (pe_call (ok__law_far T) hr (by rfl) T.g__law_far T.F__law_far.kp T.b__law_far .nil pass0 (pa_cons (pv 0) (pa_cons (pe_ix (r := rIxL K) ix_list (pe_lst (pa_cons pe_int (pa_cons pe_int pa_nil))) (pe_op op_sub (pv 1) pe_int) (fun _ _ => rfl)) pa_nil)))))))))), ?_⟩
    refine ⟨.ref pa, rfl, pa, 6, n + 5, rfl, by decide, by decide, pb, fun way H1 l1 u1 pb1 e1 => ?_⟩
    refine ⟨.int way, rfl, way, 2, rfl, rfl, _, rfl, it2 (fun _ => ?_) (fun c1 => ?_)⟩
    · exact ⟨.ref pa, rfl, pa, 13, n + 4, rfl, by decide, by decide, pb1, fun v H2 l2 u2 pb2 e2 => q v H2 l2 (by omega) (pb2.less (by omega)) (e1.trans e2)⟩
    have c1 : ¬ way < 2 := of_decide_eq_false c1
    refine ⟨.int way, rfl, rfl, _, rfl, it2 (fun _ => ?_) (fun c2 => ?_)⟩
    · exact ⟨.ref pa, rfl, pa, 1200, n + 4, rfl, by decide, by decide, pb1, fun v H2 l2 u2 pb2 e2 => q v H2 l2 (by omega) (pb2.less (by omega)) (e1.trans e2)⟩
    rw [dI] at c2
    have c2 : ¬ way = 2 := of_decide_eq_false c2
    refine ⟨.int way, rfl, rfl, _, rfl, it2 (fun _ => ?_) (fun c3 => ?_)⟩
    · refine ⟨10, 30, rfl, rfl, ⟨by decide, by decide, by decide⟩, _, 1, rfl, rfl, .ref pa, rfl, pa, 40, n + 4, rfl, by decide, by decide, pb1, fun v H2 l2 u2 pb2 e2 => ?_⟩
      refine ⟨_, v, rfl, rfl, q _ H2 ?_ ?_ (pb2.less (by omega)) (e1.trans e2)⟩
      · show (0 : Int) ≤ 1000000000000000000000000000000 - 1 - v
        omega
      · show (1000000000000000000000000000000 : Int) - 1 - v < 1000000000000000000000000000000
        omega
    rw [dI] at c3
    have c3 : ¬ way = 5 := of_decide_eq_false c3
    have fin : ∀ (m : Nat) (H2 : Hp), m ≤ 5 → PoolB H2 pa (n + 5) → ExB pa H H2 → sp__law_far [.ref pa, .int (m : Int)] H2 Q E0 := fun m H2 hm pb2 e2 =>
      ⟨pa, m, n, rfl, hm, pb2.less (by omega), fun v H3 v0 v1 pb3 e3 => q v H3 v0 (Int.lt_of_lt_of_le v1 (big_le m (by omega))) pb3 (e2.trans e3)⟩
    refine ⟨.ref pa, rfl, sz_of (Nat.le_of_ble_eq_true rfl), fun l hl => ?_⟩
    have e2 : Ex H1 (upd H1 l (.lst [.int 2, .int 5])) := Ex.new hl
    rcases (show way = 3 ∨ way = 4 by omega) with rfl | rfl
    · exact ⟨.int 3, rfl, 3, 3, rfl, rfl, l, _, 0, .int 2, rfl, rfl, .inl (.inl upd_same), rfl, fin 2 _ (by decide) (pb1.up e2) (e1.trans (ExB.of e2))⟩
    · exact ⟨.int 4, rfl, 4, 3, rfl, rfl, l, _, 1, .int 5, rfl, rfl, .inl (.inl upd_same), rfl, fin 5 _ (by decide) (pb1.up e2) (e1.trans (ExB.of e2))⟩
def sp__law_all_primes : Sp := fun vs H Q _ => vs = [] ∧ ∀ p H', H p = none → Ex H H' → AccL H' p (primesL.map PyData.int) → Q (.ref p) H'
theorem ok__law_all_primes (T : Txt K mg z) : FnOk P w K mg base CX0 1 z.a__law_all_primes z.d__law_all_primes [] (sp__law_all_primes) := by
  refine T.F__law_all_primes.ok sc__law_all_primes (fun vs H Q E h => ?_) (fun cdv A outer s H vs Q E hr h => ?_)
  · obtain ⟨rfl, _⟩ := h
    rfl
  · obtain ⟨rfl, q⟩ := h
    refine ⟨_, (PSs.nox (pss_one (ps_ret (pe_lc (own := [("p", 0)]) (by rfl) sc__law_all_primes.nd (pi_range2 (by rfl) T.m_range (pa_cons pe_int (pa_cons pe_int pa_nil))) (blkOk_by (own := [("p", 0)]) (N := N__law_all_primes) (sc := (defScope s__law_all_primes)) (by decide +kernel)) (fun _ _ _ _ _ => (pg_name (i := 0) sc__law_all_primes.nd rfl (.inr rfl))) (fun _ _ _ _ _ => (pts_one (pt_cmpR (r := rEqD K) (op_eqD hr.units) (pe_lc (own := [("d", 1)]) (by rfl) sc__law_all_primes.nd (pi_range2 (by rfl) T.m_range (pa_cons pe_int (pa_cons pe_int pa_nil))) (blkOk_by (own := [("d", 1)]) (N := N__law_all_primes) (sc := (relS ({ kind := .function, names := [(".0", .local), ("p", .cell), ("range", .globalImplicit)], isGenerator := false, isCoroutine := false, more := [] } : Scope) (defScope s__law_all_primes))) (by decide +kernel)) (fun _ _ _ _ _ => (pg_name (i := 1) sc__law_all_primes.nd rfl (.inl rfl))) (fun _ _ _ _ _ => (pts_one (PW.pt (pw_and (pt_cmpR op_eq (pe_op op_mod (pv 0) (pv 1)) pe_int (nomark _)) (pw_and1 (pt_cmpR op_lt (pv 1) (pv 0) (nomark _))))))) (fun _ _ _ _ _ => (pv 1))) (pe_lst pa_nil) (nomark _)))) (fun _ _ _ _ _ => (pv 0)))))), ?_⟩
    refine s_retN (ds := primesL.map PyData.int) ?_ q
    refine en_lcR2 (lo := 2) (hi := 1000) (fun p => ((irng 2 32).filter fun d => decide (p % d = 0) && decide (d < p)).isEmpty) PyData.int (ea_cons ev_c (ea_cons ev_c ea_nil)) ⟨by decide, by decide, by decide, by decide, by decide⟩ ?hw ?ht ?he ?hn
    case hw => exact fun _ => rfl
    case he => exact fun x _ _ _ => ed_int (ev_var rfl)
    case hn => exact fun _ _ _ _ => rfl
    case ht =>
      intro p p0 p1
      have hN := en_lcR2 (ta := tCons (tC (.int 2)) (tCons (tC (.int 32)) tNil)) (j := 1) (vs := [1]) (σ := [some (.int p), none]) (H := H) (t := tAnd (tTest (tOp rEq (tOp (rI (fun _ j => 0 < j) fun i j => .int (i % j)) (tVar 0) (tVar 1)) (tC (.int 0)))) (tTest (tOp (rI0 fun i j => .bl (decide (i < j))) (tVar 1) (tVar 0)))) (te := tVar 1) (lo := 2) (hi := 32)
        (fun d => decide (p % d = 0) && decide (d < p)) PyData.int (ea_cons ev_c (ea_cons ev_c ea_nil)) ⟨by decide, by decide, by decide, by decide, by decide⟩ (fun _ => rfl) (fun d d0 d1 => ?_) (fun d _ _ _ => ed_int (ev_var rfl)) (fun _ _ _ _ => rfl)
      · have h := ev_eqNil (K := K) hN (shaped_ints _)
        rw [show (((irng 2 32).filter fun d => decide (p % d = 0) && decide (d < p)).map PyData.int).isEmpty = ((irng 2 32).filter fun d => decide (p % d = 0) && decide (d < p)).isEmpty from by cases ((irng 2 32).filter fun d => decide (p % d = 0) && decide (d < p)) <;> rfl] at h
        exact et_test h
      · have h := rv_eq (H := H) (x := .int (p % d)) (y := .int 0) rfl
        rw [dI] at h
        exact et_and (et_test (ev_op (ev_op (ev_var (v := .int p) rfl) (ev_var (v := .int d) rfl) (rv_I (C := fun _ j => 0 < j) (show (0 : Int) < d by omega))) ev_c h)) fun _ => et_test (ev_op (ev_var (v := .int d) rfl) (ev_var (v := .int p) rfl) rv_I0)
def sp__law_prime : Sp := fun vs H Q _ => ∃ (pa la : Addr) (n : Nat), vs = [.ref pa, .ref la] ∧ H la = some (.lst (primesL.map V.int)) ∧ la ≠ pa ∧ PoolB H pa (n + 2) ∧ ∀ p H', p ∈ primesL → PoolB H' pa n → ExB pa H H' → Q (.int p) H'
theorem ok__law_prime (T : Txt K mg z) : FnOk P w K mg base CX0 2 z.a__law_prime z.d__law_prime ["pool", "primes"] (sp__law_prime) := by
  refine T.F__law_prime.ok sc__law_prime (fun vs H Q E h => ?_) (fun cdv A outer s H vs Q E hr h => ?_)
  · obtain ⟨pa, la, n, rfl, _⟩ := h
    rfl
  · obtain ⟨pa, la, n, rfl, hl, hne, pb, q⟩ := h
    refine ⟨_, (PSs.nox (pss_cons (ps_set (i := 2) sc__law_prime.nd rfl (.inl rfl) (pe_call (ok__law_take T) hr (by rfl) T.g__law_take T.F__law_take.kp T.b__law_take .nil pass0 (pa_cons (pv 0) (pa_cons pe_int pa_nil))))
      (pss_cons (ps_if (pt_cmpR op_eq (pv 2) pe_int (nomark _)) (pss_one (ps_ret (pe_ix (r := rIxL K) ix_list (pv 1) (pe_call (ok__law_take T) hr (by rfl) T.g__law_take T.F__law_take.kp T.b__law_take .nil pass0 (pa_cons (pv 0) (pa_cons pe_int pa_nil))) (fun _ _ => rfl)))) pss_nil)
      (pss_cons (ps_if (pt_cmpR op_eq (pv 2) pe_int (nomark _)) (pss_one (ps_ret (pe_ix (r := rIxL K) ix_list (pv 1) (pe_call (ok__law_take T) hr (by rfl) T.g__law_take T.F__law_take.kp T.b__law_take .nil pass0 (pa_cons (pv 0) (pa_cons pe_int pa_nil))) (fun _ _ => rfl)))) pss_nil)
      (pss_one (ps_ret (pe_ix (r := rIxL K) ix_list (pv 1) (pe_op op_sub pe_int (pe_call (ok__law_take T) hr (by rfl) T.g__law_take T.F__law_take.kp T.b__law_take .nil pass0 (pa_cons (pv 0) (pa_cons pe_int pa_nil)))) (fun _ _ => rfl)))))))), ?_⟩
    refine ⟨.ref pa, rfl, pa, 3, n + 1, rfl, by decide, by decide, pb, fun way H1 l1 u1 pb1 e1 => ?_⟩
    have hl1 := e1 _ _ hne hl
    have fin : ∀ (v : Int) (H2 : Hp), 0 ≤ v → v < 168 → PoolB H2 pa n → ExB pa H1 H2 → rIxL K (.ref la) (.int v) H2 Q := fun v H2 v0 v1 pb2 e2 => by
      obtain ⟨p, h1, h2⟩ := primesL_get (i := v.toNat) (by omega)
      refine ⟨la, _, v, .int p, rfl, rfl, .inl (.inl (e2 _ _ hne hl1)), ?_, q p H2 h2 pb2 (e1.trans e2)⟩
      rw [show v = ((v.toNat : Nat) : Int) by omega]
      exact atI_nat (j := v.toNat) h1
    refine ⟨.int way, rfl, rfl, _, rfl, it2 (fun _ => ?_) (fun c1 => ?_)⟩
    · exact ⟨.ref la, rfl, .ref pa, rfl, pa, 8, n, rfl, by decide, by decide, pb1, fun v H2 l2 u2 pb2 e2 => fin v H2 l2 (by omega) pb2 e2⟩
    refine ⟨.int way, rfl, rfl, _, rfl, it2 (fun _ => ?_) (fun c2 => ?_)⟩
    · exact ⟨.ref la, rfl, .ref pa, rfl, pa, 168, n, rfl, by decide, by decide, pb1, fun v H2 l2 u2 pb2 e2 => fin v H2 l2 (by omega) pb2 e2⟩
    · exact ⟨.ref la, rfl, .ref pa, rfl, pa, 12, n, rfl, by decide, by decide, pb1, fun v H2 l2 u2 pb2 e2 => ⟨167, v, rfl, rfl, fin (167 - v) H2 (by omega) (by omega) pb2 e2⟩⟩
/-- [_law_prime(pool, primes) for turn in range(m)] -/
theorem lc_primes {ta : TA} {j ip il : Nat} {σ : L2.St} {H : Hp} {pa la : Addr} {m : Int} {n : Nat} {Q : VK} (hA : EvA ta σ H [.int m]) (hm : 0 ≤ m ∧ m ≤ 1000) (hw : ∀ x, wipe ((wipe σ [j]).set j (some x)) [j] = wipe σ [j])
    (hi : ∀ x, ((wipe σ [j]).set j (some x))[ip]? = some (some (.ref pa))) (hil : ∀ x, ((wipe σ [j]).set j (some x))[il]? = some (some (.ref la))) (hl : H la = some (.lst (primesL.map V.int))) (hne : la ≠ pa) (pb : PoolB H pa (n + 2 * m.toNat))
    (q : ∀ (D : Addr) (qs : List Int) (H' : Hp), H D = none → qs.length = m.toNat → (∀ x ∈ qs, x ∈ primesL) → H' D = some (.lst (qs.map V.int)) → PoolB H' pa n → ExB pa H H' → Q (.ref D) H') :
    tLc (iRng1 ta) (gName j) tYes (tCall sp__law_prime [] E0 (tCons (tVar ip) (tCons (tVar il) tNil))) [j] σ H Q := hA H (Ex.refl H) _ fun H1 e1 => by
  refine ⟨m, rfl, by omega, by omega, fun D hD => lc_range (lo := 0) (n := m.toNat) (fun i H' => ∃ qs : List Int, qs.length = i ∧ (∀ x ∈ qs, x ∈ primesL) ∧ H' D = some (.lst (qs.map V.int)) ∧ i ≤ m.toNat ∧ PoolB H' pa (n + 2 * (m.toNat - i)) ∧ ExB pa H H')
    ⟨[], rfl, (fun x hx => nomatch hx), upd_same, Nat.zero_le _, (pb.up e1).dr hD, ExB.of (e1.trans (Ex.new hD))⟩ (fun i H2 hi2 hP => ?_) (fun H2 hP => ?_)⟩
  · obtain ⟨qs, h1, h2, h3, h4, pb2, e2⟩ := hP
    refine ⟨hw _, ?_⟩
    have hDp : D ≠ pa := (pb.up e1).ne hD
    refine ⟨.ref pa, hi _, .ref la, hil _, pa, la, n + 2 * (m.toNat - (i + 1)), rfl, e2 _ _ hne hl, hne, ?_, fun p H4 hp pb4 e4 => ?_⟩
    · rw [show n + 2 * (m.toNat - (i + 1)) + 2 = n + 2 * (m.toNat - i) by omega]
      exact pb2
    · refine ⟨_, e4 _ _ hDp h3, sz_lt ?_, qs ++ [p], ?_, ?_, ?_, by omega, ?_, ?_⟩
      · rw [List.length_map]
        omega
      · rw [List.length_append, h1]
        rfl
      · intro x hx
        rcases List.mem_append.mp hx with z | z
        · exact h2 x z
        · rcases List.mem_cons.mp z with z | z
          · rw [z]
            exact hp
          · cases z
      · rw [upd_same, List.map_append]
        rfl
      · obtain ⟨a, b, c, h, k⟩ := pb4
        exact ⟨a, b, c, by rw [upd_ne (Ne.symm hDp)]; exact h, k⟩
      · intro x o hx hox
        have hxD : x ≠ D := ne_of_none hox (fresh_back e1 hD)
        rw [upd_ne hxD]
        exact e4 _ _ hx (e2 _ _ hx hox)
  · obtain ⟨qs, h1, h2, h3, h4, pb2, e2⟩ := hP
    rw [show n + 2 * (m.toNat - m.toNat) = n by omega] at pb2
    exact q D qs H2 (fresh_back e1 hD) h1 h2 h3 pb2 e2
def sp__law_shared : Sp := fun vs H Q _ => ∃ a b : Int, vs = [.int a, .int b] ∧ Q (.int (Int.gcd a b)) H
theorem gcd_abs (a b : Int) : Int.gcd (if a < 0 then -a else a) (if b < 0 then -b else b) = Int.gcd a b := by
  rw [Int.gcd_eq_natAbs_gcd_natAbs, Int.gcd_eq_natAbs_gcd_natAbs]
  congr 1
  · split <;> omega
  · split <;> omega
theorem ok__law_shared (T : Txt K mg z) : FnOk P w K mg base CX0 1 z.a__law_shared z.d__law_shared ["one", "other"] (sp__law_shared) := by
  refine T.F__law_shared.ok sc__law_shared (fun vs H Q E h => ?_) (fun cdv A outer s H vs Q E hr h => ?_)
  · obtain ⟨a, b, rfl, _⟩ := h
    rfl
  · obtain ⟨a, b, rfl, q⟩ := h
    refine ⟨_, (PSs.nox (pss_cons (ps_set (i := 0) sc__law_shared.nd rfl (.inl rfl) (pe_callB call_abs (by rfl) T.m_abs (by decide +kernel) (pa_cons (pv 0) pa_nil)))
      (pss_cons (ps_set (i := 1) sc__law_shared.nd rfl (.inl rfl) (pe_callB call_abs (by rfl) T.m_abs (by decide +kernel) (pa_cons (pv 1) pa_nil)))
      (pss_cons (ps_while PassesOwn.never (pt_cmpR op_gt (pv 1) pe_int (nomark _)) (pss_one (ps_par (i := 0) (j := 1) (by rfl) sc__law_shared.nd rfl rfl (by decide) rfl rfl (pa_cons (pv 1) (pa_cons (pe_op op_mod (pv 0) (pv 1)) pa_nil)) (by rfl))))
      (pss_one (ps_ret (pv 0))))))), ?_⟩
    refine ⟨.int a, rfl, a, rfl, .int b, rfl, b, rfl, ?_⟩
    rw [← gcd_abs] at q
    have ha : 0 ≤ (if a < 0 then -a else a) := by split <;> omega
    have hb : 0 ≤ (if b < 0 then -b else b) := by split <;> omega
    show tSeq _ _ _ [some (.int (if a < 0 then -a else a)), some (.int (if b < 0 then -b else b))] H
    generalize (if a < 0 then -a else a) = a' at ha q
    generalize (if b < 0 then -b else b) = b' at hb q
    refine ⟨fun m σ H' => ∃ x y : Int, σ = [some (.int x), some (.int y)] ∧ H' = H ∧ 0 ≤ y ∧ 0 ≤ x ∧ Int.gcd x y = Int.gcd a' b' ∧ m = y.toNat, ⟨b'.toNat, a', b', rfl, rfl, hb, ha, rfl, rfl⟩, fun m σ H' hW => ?_⟩
    obtain ⟨x, y, rfl, rfl, hy, hx, hg, rfl⟩ := hW
    refine ⟨.int y, rfl, y, 0, rfl, rfl, _, rfl, it2 (fun e => ?_) (fun e => ?_)⟩
    · have e : (0 : Int) < y := of_decide_eq_true e
      refine ⟨fun σ2 H2 => σ2 = [some (.int y), some (.int (x % y))] ∧ H2 = H', fun σ2 H2 hn => ?_, ?_⟩
      · obtain ⟨rfl, rfl⟩ := hn
        have h1 : 0 ≤ x % y := Int.emod_nonneg x (by omega)
        have h2 : x % y < y := Int.emod_lt_of_pos x e
        exact ⟨(x % y).toNat, by omega, y, x % y, rfl, rfl, h1, hy, by rw [gcd_step, hg], rfl⟩
      · exact ⟨.int y, rfl, .int x, rfl, .int y, rfl, x, y, rfl, rfl, e, _, _, rfl, rfl, rfl⟩
    · have e : ¬ (0 : Int) < y := of_decide_eq_false e
      have e : y = 0 := by omega
      subst e
      refine ⟨.int x, rfl, ?_⟩
      rw [← hg, Int.gcd_zero_right] at q
      rw [show x = ((x.natAbs : Nat) : Int) by omega]
      exact q
theorem frac_red {t b : Int} (h1 : 1 ≤ b) (h2 : b < 1000000000000000000000000000000) (h3 : t < 1000000000000000000000000000000) (h4 : -1000000000000000000000000000000 < t) : FracOk (t / (Int.gcd t b : Int)) (b / (Int.gcd t b : Int)) ∧ 0 < (Int.gcd t b : Int) ∧ (Int.gcd t b : Int) ≤ b := by
  have d1 := Int.gcd_dvd_left t b
  have d2 := Int.gcd_dvd_right t b
  have g0 : Int.gcd t b ≠ 0 := fun e => by
    rw [e] at d2
    have := Int.zero_dvd.mp d2
    omega
  have gp : 0 < Int.gcd t b := by omega
  have gl := Int.le_of_dvd (by omega) d2
  have h5 := Int.gcd_ediv_gcd_ediv_gcd gp
  obtain ⟨x, hx⟩ := d1
  obtain ⟨y, hy⟩ := d2
  have e1 : t / (Int.gcd t b : Int) = x := Int.ediv_eq_of_eq_mul_right (by omega) hx
  have e2 : b / (Int.gcd t b : Int) = y := Int.ediv_eq_of_eq_mul_right (by omega) hy
  have gi : 0 < (Int.gcd t b : Int) := by omega
  refine ⟨?_, gi, gl⟩
  rw [e1, e2] at h5 ⊢
  generalize (Int.gcd t b : Int) = g at *
  have y0 : 0 < y := by
    by_cases z : 0 < y
    · exact z
    · have : g * y ≤ g * 0 := Int.mul_le_mul_of_nonneg_left (by omega) (by omega)
      omega
  have y1 : 1 * y ≤ g * y := Int.mul_le_mul_of_nonneg_right (by omega) (by omega)
  refine ⟨by omega, by omega, ?_, ?_, h5⟩
  · by_cases z : 0 ≤ x
    · have : 1 * x ≤ g * x := Int.mul_le_mul_of_nonneg_right (by omega) z
      omega
    · omega
  · by_cases z : x ≤ 0
    · have : g * x ≤ 1 * x := Int.mul_le_mul_of_nonpos_right (by omega) z
      omega
    · omega
def sp__law_fraction : Sp := fun vs H Q _ => ∃ (pa la : Addr) (n : Nat), vs = [.ref pa, .ref la] ∧ H la = some (.lst (primesL.map V.int)) ∧ la ≠ pa ∧ PoolB H pa (n + 30) ∧
  ∀ (t b : Int) (p : Addr) H', FracOk t b → PoolB H' pa n → ExB pa H H' → H p = none → H' p = some (.tup [.int t, .int b]) → Q (.ref p) H'
theorem ok__law_fraction (T : Txt K mg z) : FnOk P w K mg base CX0 4 z.a__law_fraction z.d__law_fraction ["pool", "primes"] (sp__law_fraction) := by
  refine T.F__law_fraction.ok sc__law_fraction (fun vs H Q E h => ?_) (fun cdv A outer s H vs Q E hr h => ?_)
  · obtain ⟨pa, la, n, rfl, _⟩ := h
    rfl
  · obtain ⟨pa, la, n, rfl, hl, hne, pb, q⟩ := h
    refine ⟨_, (PSs.nox (pss_cons (ps_set (i := 2) sc__law_fraction.nd rfl (.inl rfl) (pe_call (ok__law_number T) hr (by rfl) T.g__law_number T.F__law_number.kp T.b__law_number .nil pass0 (pa_cons (pv 0) pa_nil)))
      (pss_cons (ps_set (i := 3) sc__law_fraction.nd rfl (.inl rfl) (pe_callB (call_max2 rfl) (by rfl) T.m_max (by decide +kernel) (pa_cons pe_int (pa_cons (pe_call (ok__law_number T) hr (by rfl) T.g__law_number T.F__law_number.kp T.b__law_number .nil pass0 (pa_cons (pv 0) pa_nil)) pa_nil))))
      (pss_cons (ps_set (i := 4) sc__law_fraction.nd rfl (.inl rfl) (pe_call (ok__law_take T) (hr.mono (by decide)) (by rfl) T.g__law_take T.F__law_take.kp T.b__law_take .nil pass0 (pa_cons (pv 0) (pa_cons pe_int pa_nil))))
      (pss_cut (ps_if (pt_cmpR op_lt (pv 4) pe_int (nomark _)) (pss_cons (ps_set (i := 5) sc__law_fraction.nd rfl (.inl rfl) (pe_op op_add pe_int (pe_call (ok__law_take T) (hr.mono (by decide)) (by rfl) T.g__law_take T.F__law_take.kp T.b__law_take .nil pass0 (pa_cons (pv 0) (pa_cons pe_int pa_nil)))))
      (pss_cons (ps_for PassesOwn.never rfl (pi_range1 (by rfl) T.m_range (pa_cons (pe_op op_add pe_int (pe_call (ok__law_take T) (hr.mono (by decide)) (by rfl) T.g__law_take T.F__law_take.kp T.b__law_take .nil pass0 (pa_cons (pv 0) (pa_cons pe_int pa_nil)))) pa_nil)) (pg_name (i := 6) sc__law_fraction.nd rfl (.inl rfl)) (pss_one (ps_set (i := 5) sc__law_fraction.nd rfl (.inl rfl) (pe_op op_mulW (pv 5) (pe_call (ok__law_prime T) (hr.mono (by decide)) (by rfl) T.g__law_prime T.F__law_prime.kp T.b__law_prime .nil pass0 (pa_cons (pv 0) (pa_cons (pv 1) pa_nil)))))))
      (pss_cons (ps_set (i := 2) sc__law_fraction.nd rfl (.inl rfl) (pe_ix (r := rIxL K) ix_list (pe_lst (pa_cons (pv 5) (pa_cons (pv 2) pa_nil))) (pv 4) (fun _ _ => rfl)))
      (pss_one (ps_set (i := 3) sc__law_fraction.nd rfl (.inl rfl) (pe_ix (r := rIxL K) ix_list (pe_lst (pa_cons (pv 3) (pa_cons (pv 5) pa_nil))) (pv 4) (fun _ _ => rfl))))))) pss_nil)
      (pss_cut (ps_if (pt_cmpR op_eq (pe_call (ok__law_take T) (hr.mono (by decide)) (by rfl) T.g__law_take T.F__law_take.kp T.b__law_take .nil pass0 (pa_cons (pv 0) (pa_cons pe_int pa_nil))) pe_int (nomark _)) (pss_one (ps_set (i := 2) sc__law_fraction.nd rfl (.inl rfl) (pe_op op_sub pe_int (pv 2)))) pss_nil)
      (pss_cons (ps_set (i := 7) sc__law_fraction.nd rfl (.inl rfl) (pe_call (ok__law_shared T) (hr.mono (by decide)) (by rfl) T.g__law_shared T.F__law_shared.kp T.b__law_shared .nil pass0 (pa_cons (pv 2) (pa_cons (pv 3) pa_nil))))
      (pss_one (ps_ret (pe_tup (pa_cons (pe_op op_fdivW (pv 2) (pv 7)) (pa_cons (pe_op op_fdivW (pv 3) (pv 7)) pa_nil)))))))))))), ?_⟩
    refine ⟨.ref pa, rfl, pa, n + 24, rfl, pb, fun top H1 t0 t1 pb1 e1 => ?_⟩
    refine ⟨.ref pa, rfl, pa, n + 18, rfl, pb1, fun bot H2 b0 b1 pb2 e2 => ?_⟩
    refine ⟨1, bot, rfl, ?_⟩
    have hb : 1 ≤ (if bot > 1 then bot else 1) ∧ (if bot > 1 then bot else 1) < 1000000000000000000000000000000 := by split <;> omega
    refine ⟨.ref pa, rfl, pa, 4, n + 17, rfl, by decide, by decide, pb2, fun way H3 w0 w1 pb3 e3 => ?_⟩
    show tCut _ _ _ [some (.ref pa), some (.ref la), some (.int top), some (.int (if bot > 1 then bot else 1)), some (.int way), none, none, none] H3
    generalize (if bot > 1 then bot else 1) = bt at hb
    have e03 : ExB pa H H3 := (e1.trans e2).trans e3
    refine ⟨fun σ H' => ∃ (t b : Int) (y5 y6 : Option V), σ = [some (.ref pa), some (.ref la), some (.int t), some (.int b), some (.int way), y5, y6, none] ∧ 0 ≤ t ∧ t < 1000000000000000000000000000000 ∧ 1 ≤ b ∧ b < 1000000000000000000000000000000 ∧ PoolB H' pa (n + 1) ∧ ExB pa H H', ?_, fun σ H4 hM => ?_⟩
    · refine ⟨.int way, rfl, way, 2, rfl, rfl, _, rfl, it2 (fun c => ?_) (fun c => ?_)⟩
      · have c : way < 2 := of_decide_eq_true c
        refine ⟨.ref pa, rfl, pa, 6, n + 16, rfl, by decide, by decide, pb3, fun s0 H4 s1 s2 pb4 e4 => ⟨1, s0, rfl, rfl, ?_⟩⟩
        refine ⟨.ref pa, rfl, pa, 3, n + 15, rfl, by decide, by decide, pb4, fun r H5 r0 r1 pb5 e5 => ⟨1, r, rfl, rfl, ?_⟩⟩
        have e05 : ExB pa H H5 := (e03.trans e4).trans e5
        refine ⟨1 + r, rfl, by omega, by omega, for_range (lo := 0) (n := (1 + r).toNat) (fun i σ H' => (∃ (sm : Int) (y6 : Option V), σ = [some (.ref pa), some (.ref la), some (.int top), some (.int bt), some (.int way), some (.int sm), y6, none] ∧ 1 ≤ sm ∧ sm ≤ 6 * 1000 ^ i) ∧ PoolB H' pa (n + 15 - 2 * i) ∧ ExB pa H H') ⟨⟨1 + s0, none, rfl, by omega, by omega⟩, pb5, e05⟩ (fun i σ H6 hi hP => ?_) (fun σ H6 hP => ?_)⟩
        · obtain ⟨⟨sm, y6, rfl, m0, m1⟩, pb6, e6⟩ := hP
          have hi3 : i < 3 := by omega
          have hm1 : sm ≤ 6000000000 := by
            rcases (show i = 0 ∨ i = 1 ∨ i = 2 by omega) with rfl | rfl | rfl <;> simp at m1 <;> omega
          refine ⟨.int sm, rfl, .ref pa, rfl, .ref la, rfl, pa, la, n + 15 - 2 * (i + 1), rfl, e6 _ _ hne hl, hne, ?_, fun p H7 hp pb7 e7 => ?_⟩
          · rw [show n + 15 - 2 * (i + 1) + 2 = n + 15 - 2 * i by omega]
            exact pb6
          · have lo := primesL_lo hp
            refine ⟨sm, p, rfl, rfl, wide_mul (a := 40) (b := 20) (by omega) (by omega) (by decide) (by decide) (by decide), ⟨sm * p, _, rfl, ?_, ?_⟩, pb7, e6.trans e7⟩
            · have : 1 * 1 ≤ sm * p := Int.mul_le_mul m0 (by omega) (by decide) (by omega)
              omega
            · have h1 : sm * p ≤ 6 * 1000 ^ i * 1000 := Int.mul_le_mul m1 (by omega) (by omega) (by omega)
              rw [Int.pow_succ, ← Int.mul_assoc]
              exact h1
        · obtain ⟨⟨sm, y6, rfl, m0, m1⟩, pb6, e6⟩ := hP
          have hm1 : sm ≤ 6000000000 := by
            rcases (show (1 + r).toNat = 1 ∨ (1 + r).toNat = 2 ∨ (1 + r).toNat = 3 by omega) with z | z | z <;> rw [z] at m1 <;> simp at m1 <;> omega
          refine ⟨.int sm, rfl, .int top, rfl, sz_of (Nat.le_of_ble_eq_true rfl), fun l1 hl1 => ?_⟩
          have f1 : Ex H6 (upd H6 l1 (.lst [.int sm, .int top])) := Ex.new hl1
          have pb7 : PoolB (upd H6 l1 (.lst [.int sm, .int top])) pa (n + 1) := (pb6.up f1).less (by omega)
          have e7 : ExB pa H (upd H6 l1 (.lst [.int sm, .int top])) := e6.trans (ExB.of f1)
          have fin : ∀ (t b : Int) (H8 : Hp), Ex (upd H6 l1 (.lst [.int sm, .int top])) H8 → 0 ≤ t → t < 1000000000000000000000000000000 → 1 ≤ b → b < 1000000000000000000000000000000 → ∃ (t' b' : Int) (y5 y6' : Option V), [some (.ref pa), some (.ref la), some (.int t), some (.int b), some (.int way), some (.int sm), y6, none] = [some (.ref pa), some (.ref la), some (.int t'), some (.int b'), some (.int way), y5, y6', none] ∧ 0 ≤ t' ∧ t' < 1000000000000000000000000000000 ∧ 1 ≤ b' ∧ b' < 1000000000000000000000000000000 ∧ PoolB H8 pa (n + 1) ∧ ExB pa H H8 :=
            fun t b H8 x h1 h2 h3 h4 => ⟨t, b, _, _, rfl, h1, h2, h3, h4, pb7.up x, e7.trans (ExB.of x)⟩
          rcases (show way = 0 ∨ way = 1 by omega) with rfl | rfl
          · refine ⟨.int 0, rfl, l1, _, 0, .int sm, rfl, rfl, .inl (.inl upd_same), rfl, ?_⟩
            refine ⟨.int bt, rfl, .int sm, rfl, sz_of (Nat.le_of_ble_eq_true rfl), fun l2 hl2 => ?_⟩
            refine ⟨.int 0, rfl, l2, _, 0, .int bt, rfl, rfl, .inl (.inl upd_same), rfl, ?_⟩
            exact fin sm bt _ (Ex.new hl2) (by omega) (by omega) hb.1 hb.2
          · refine ⟨.int 1, rfl, l1, _, 1, .int top, rfl, rfl, .inl (.inl upd_same), rfl, ?_⟩
            refine ⟨.int bt, rfl, .int sm, rfl, sz_of (Nat.le_of_ble_eq_true rfl), fun l2 hl2 => ?_⟩
            refine ⟨.int 1, rfl, l2, _, 1, .int sm, rfl, rfl, .inl (.inl upd_same), rfl, ?_⟩
            exact fin top sm _ (Ex.new hl2) t0 t1 (by omega) (by omega)
      · exact ⟨top, bt, none, none, rfl, t0, t1, hb.1, hb.2, pb3.less (by omega), e03⟩
    · obtain ⟨t, b, y5, y6, rfl, t0, t1, b0, b1, pb4, e4⟩ := hM
      refine ⟨fun σ H' => ∃ (t : Int), σ = [some (.ref pa), some (.ref la), some (.int t), some (.int b), some (.int way), y5, y6, none] ∧ t < 1000000000000000000000000000000 ∧ -1000000000000000000000000000000 < t ∧ PoolB H' pa n ∧ ExB pa H H', ?_, fun σ H5 hM => ?_⟩
      · refine ⟨.ref pa, rfl, pa, 2, n, rfl, by decide, by decide, pb4, fun w H5 _ _ pb5 e5 => ⟨rfl, _, rfl, it2 (fun _ => ?_) (fun _ => ?_)⟩⟩
        · exact ⟨.int t, rfl, 0, t, rfl, rfl, 0 - t, rfl, by omega, by omega, pb5, e4.trans e5⟩
        · exact ⟨t, rfl, by omega, by omega, pb5, e4.trans e5⟩
      · obtain ⟨t, rfl, t1, t0, pb5, e5⟩ := hM
        obtain ⟨hF, g0, g1⟩ := frac_red b0 b1 t1 t0
        refine ⟨.int t, rfl, .int b, rfl, t, b, rfl, ?_⟩
        have wd : CDivW t (Int.gcd t b : Int) := wide_div (b := 120) g0 (by omega) (by decide) (by decide)
        have wd2 : CDivW b (Int.gcd t b : Int) := wide_div (b := 120) g0 (by omega) (by decide) (by decide)
        refine ⟨.int t, rfl, _, rfl, t, _, rfl, rfl, wd, .int b, rfl, _, rfl, b, _, rfl, rfl, wd2, sz_of (Nat.le_of_ble_eq_true rfl), fun p hp => ?_⟩
        exact q _ _ p _ hF (pb5.dr hp) (e5.trans (ExB.of (Ex.new hp))) (e5.free pb5.isL hp) upd_same
def sp__law_right : Sp := fun vs H Q _ => ∃ (vf v : V) (t b p : Int), vs = [vf, .int p, v] ∧ Dt H vf (.tuple [.int t, .int b]) ∧ b.natAbs < 2 ^ 250 ∧ primeB p = true ∧ Dt H v (restD t b p) ∧ Q (.bl true) H
theorem ok__law_right (T : Txt K mg z) : FnOk P w K mg base CX0 1 z.a__law_right z.d__law_right ["f", "p", "found"] (sp__law_right) := by
  refine T.F__law_right.ok sc__law_right (fun vs H Q E h => ?_) (fun cdv A outer s H vs Q E hr h => ?_)
  · obtain ⟨vf, v, t, b, p, rfl, _⟩ := h
    rfl
  · obtain ⟨vf, v, t, b, p, rfl, hf, hbs, hp, hv, q⟩ := h
    obtain ⟨a, xs, rfl, ha, hx⟩ := hf.tup_get
    have ex := DtAll.ints_eq [t, b] hx
    subst ex
    have lo := primeB_lo hp
    have hS : SqT K H a [.int t, .int b] := .inl (.inl ha)
    refine ⟨_, (PSs.nox (pss_cons (ps_if (pt_cmpR op_eq (pe_op op_mod (pe_ix (r := rIxT K) ix_tup (pv 0) pe_int (fun _ _ => rfl)) (pv 1)) pe_int (nomark _)) (pss_one (ps_ret (pe_cmpR op_isN (pv 2) pe_non (nomark _)))) pss_nil)
      (pss_cons (ps_if (PW.pt (pw_or (pt_not (pt_val (pe_callB (r := rIsi K) call_isi (by rfl) T.m_isinstance (by decide +kernel) (pa_cons (pv 2) (pa_cons (pe_bltn (v := .ty "int") (by rfl) T.m_int (by decide +kernel) rfl) pa_nil))))) (pw_or (pt_val (pe_callB (r := rIsi K) call_isi (by rfl) T.m_isinstance (by decide +kernel) (pa_cons (pv 2) (pa_cons (pe_bltn (v := .ty "bool") (by rfl) T.m_bool (by decide +kernel) rfl) pa_nil)))) (pw_or1 (pt_not (pt_chain op_le op_lt pe_int (pv 2) (pv 1))))))) (pss_one (ps_ret pe_bl)) pss_nil)
      (pss_one (ps_ret (pe_cmpR op_eq (pe_op op_mod (pe_op op_sub (pe_op op_mulW (pv 2) (pe_ix (r := rIxT K) ix_tup (pv 0) pe_int (fun _ _ => rfl))) (pe_ix (r := rIxT K) ix_tup (pv 0) pe_int (fun _ _ => rfl))) (pv 1)) pe_int (nomark _))))))), ?_⟩
    refine ⟨.ref a, rfl, a, _, 1, .int b, rfl, rfl, hS, rfl, .int p, rfl, b, p, rfl, rfl, (show 0 < p by omega), rfl, _, rfl, it2 (fun e => ?_) (fun e => ?_)⟩
    · rw [dI] at e
      rw [restD_none (of_decide_eq_true e)] at hv
      cases hv
      exact ⟨.non, rfl, rfl, q⟩
    · rw [dI] at e
      obtain ⟨r, e1, r0, r1, hr⟩ := restD_ok (t := t) hp (of_decide_eq_false e)
      rw [e1] at hv
      have hv' := hv
      cases hv
      refine ⟨.int r, rfl, _, _, _, _, _, rfl, .ty _, (hv').ty, kit_ty ( kit_int _), true, rfl, itF rfl ?_⟩
      refine ⟨.int r, rfl, _, _, _, _, _, rfl, .ty _, (hv').ty, kit_ty ( kit_bool _), false, rfl, itF rfl ?_⟩
      refine ⟨.int r, rfl, 0, r, rfl, rfl, true, ?_, itT rfl ?_⟩
      · show V.bl (decide (0 ≤ r)) = V.bl true
        rw [decide_eq_true r0]
      refine ⟨.int p, rfl, r, p, rfl, rfl, true, ?_, itF rfl ?_⟩
      · show V.bl (decide (r < p)) = V.bl true
        rw [decide_eq_true r1]
      refine ⟨.int r, rfl, .ref a, rfl, a, _, 1, .int b, rfl, rfl, hS, rfl, r, b, rfl, rfl, wide_mul (a := 20) (b := 250) (by omega) hbs (by decide) (by decide) (by decide), .ref a, rfl, a, _, 0, .int t, rfl, rfl, hS, rfl, _, _, rfl, rfl, .int p, rfl, _, _, rfl, rfl, (show 0 < p by omega), rfl, ?_⟩
      rw [dI, decide_eq_true hr]
      exact q
def sp__law_list_right : Sp := fun vs H Q _ => ∃ (vf : V) (a : Addr) (t b : Int) (ps : List Int), vs = [vf, .ref a] ∧ Dt H vf (.tuple [.int t, .int b]) ∧ 1 ≤ b ∧ Int.gcd t b = 1 ∧ t.natAbs < 2 ^ 250 ∧ b.natAbs < 2 ^ 250 ∧
  H a = some (.lst (ps.map V.int)) ∧ ps.length ≤ 10000 ∧ (∀ p ∈ ps, primeB p = true) ∧ ∀ H', Ex H H' → Q (.bl true) H'
theorem ok__law_list_right (T : Txt K mg z) : FnOk P w K mg base CX0 5 z.a__law_list_right z.d__law_list_right ["f", "some"] (sp__law_list_right) := by
  refine T.F__law_list_right.ok sc__law_list_right (fun vs H Q E h => ?_) (fun cdv A outer s H vs Q E hr h => ?_)
  · obtain ⟨vf, a, t, b, ps, rfl, _⟩ := h
    rfl
  · obtain ⟨vf, a, t, b, ps, rfl, hf, hb, hg, ht, hbs, ha, hl, hp, q⟩ := h
    refine ⟨_, (PSs.nox (pss_cons (ps_set (i := 2) sc__law_list_right.nd rfl (.inl rfl) (pe_callTy (r := rListS K) call_list_of (by rfl) T.m_list (by decide +kernel) (pa_cons (pv 1) pa_nil)))
      (pss_cons (ps_for PassesOwn.never rfl (pi_range1 (by rfl) T.m_range (pa_cons pe_int pa_nil)) (pg_name (i := 3) sc__law_list_right.nd rfl (.inl rfl)) (pss_cons (ps_set (i := 4) sc__law_list_right.nd rfl (.inr rfl) (pe_call (ok_rests_of T) hr (by rfl) T.g_rests_of T.F_rests_of.kp T.b_rests_of .nil pass0 (pa_cons (pv 0) (pa_cons (pv 2) pa_nil))))
      (pss_cons (ps_if (PW.pt (pw_or (pt_not (pt_val (pe_callB (r := rIsi K) call_isi (by rfl) T.m_isinstance (by decide +kernel) (pa_cons (pv 4) (pa_cons (pe_bltn (v := .ty "list") (by rfl) T.m_list (by decide +kernel) rfl) pa_nil))))) (pw_or (pt_cmpR op_ne (pe_callB (r := rLenS K) call_len_seq (by rfl) T.m_len (by decide +kernel) (pa_cons (pv 4) pa_nil)) (pe_callB (r := rLenS K) call_len_seq (by rfl) T.m_len (by decide +kernel) (pa_cons (pv 1) pa_nil)) (nomark _)) (pw_or1 (pt_cmpR (r := rNeD K) (op_neD hr.units) (pv 2) (pv 1) (nomark _)))))) (pss_one (ps_ret pe_bl)) pss_nil)
      (pss_cons (ps_if (pt_cmpR (r := rNeD K) (op_neD hr.units) (pe_lc (own := [("k", 5)]) (by rfl) sc__law_list_right.nd (pi_range1 (by rfl) T.m_range (pa_cons (pe_callB (r := rLenS K) call_len_seq (by rfl) T.m_len (by decide +kernel) (pa_cons (pv 1) pa_nil)) pa_nil)) (blkOk_by (own := [("k", 5)]) (N := N__law_list_right) (sc := (defScope s__law_list_right)) (by decide +kernel)) (fun _ _ _ _ _ => (pg_name (i := 5) sc__law_list_right.nd rfl (.inl rfl))) (fun _ _ _ _ _ => (pts_one (pt_not (pt_val (pe_call (ok__law_right T) (hr.mono (by decide)) (by rfl) T.g__law_right T.F__law_right.kp T.b__law_right .nil pass0 (pa_cons (pv 0) (pa_cons (pe_ix (r := rIxL K) ix_list (pv 1) (pv 5) (fun _ _ => rfl)) (pa_cons (pe_ix (r := rIxL K) ix_list (pv 4) (pv 5) (fun _ _ => rfl)) pa_nil)))))))) (fun _ _ _ _ _ => (pv 5))) (pe_lst pa_nil) (nomark _)) (pss_one (ps_ret pe_bl)) pss_nil)
      (pss_one (ps_expr (pe_bm PySem.F.plainAttrs_list PySem.F.slot_list_append PySem.F.type_list_append mt_append (pv 4) (pa_cons pe_int pa_nil))))))))
      (pss_one (ps_ret pe_bl))))), ?_⟩
    refine ⟨.ref a, rfl, a, _, rfl, .inl (.inl (.inl ha)), fun hd hhd => ?_⟩
    have e0 : Ex H (upd H hd (.lst (ps.map V.int))) := Ex.new hhd
    have hA0 : (upd H hd (.lst (ps.map V.int))) hd = some (.lst (ps.map V.int)) := upd_same
    refine ⟨2, rfl, by decide, by decide, for_range (lo := 0) (n := 2) (fun i σ H' => (∃ y3 y4, σ = [some vf, some (.ref a), some (.ref hd), y3, y4, none]) ∧ Ex H H' ∧ H' hd = some (.lst (ps.map V.int))) ⟨⟨none, none, rfl⟩, e0, hA0⟩ (fun i σ H1 hi hP => ?_) (fun σ H1 hP => ?_)⟩
    · obtain ⟨⟨y3, y4, rfl⟩, e1, h1⟩ := hP
      refine ⟨vf, rfl, .ref hd, rfl, vf, hd, t, b, ps, rfl, hf.up e1, hb, hg, ht, h1, hl, hp, fun fo H2 hfo e2 a2 => ?_⟩
      obtain ⟨acc, hacc, hdt, hno⟩ := id a2
      have e02 := e1.trans e2
      have ha2 := e02 _ _ ha
      have hh2 := e2 _ _ h1
      have hlen : acc.length = ps.length := by rw [hdt.len, List.length_map]
      refine ⟨.ref fo, rfl, _, _, _, _, _, rfl, .ty _, (a2.dt).ty, kit_ty ( kit_lst _), true, rfl, itF rfl ?_⟩
      refine ⟨.ref fo, rfl, fo, acc, rfl, .inl (sq_of hacc), .ref a, rfl, a, _, rfl, .inl (sq_of ha2), rfl, _, rfl, itF ?_ ?_⟩
      · rw [dI, hlen, List.length_map, decide_eq_true rfl]
        rfl
      have dA : Dt H2 (.ref a) (.list (ps.map PyData.int)) := .lst ha2 (DtAll.ints ps)
      have dH : Dt H2 (.ref hd) (.list (ps.map PyData.int)) := .lst hh2 (DtAll.ints ps)
      have lay : (PyData.list (ps.map PyData.int)).canLay0 = true := canLay_ints ps
      refine ⟨.ref hd, rfl, .ref a, rfl, _, _, dH.dp _ _ lay, dA.dp _ _ lay, shaped_ints ps, shaped_ints ps, _, rfl, itF ?_ ?_⟩
      · rw [eqv_self lay]
        rfl
      -- [k for k in range(len(some)) if not _law_right(..)] != []
      have hN := en_lcR1 (H := H2) (σ := [some vf, some (.ref a), some (.ref hd), some (.int (0 + (i : Int))), some (.ref fo), none]) (ta := tCons (tCB (rLenS K) (tCons (tVar 1) tNil)) tNil) (j := 5) (vs := [5]) (hi := ((ps.map V.int).length : Int)) (t := tNot (tB (tCall sp__law_right [] E0 (tCons (tVar 0) (tCons (tOp (rIxL K) (tVar 1) (tVar 5)) (tCons (tOp (rIxL K) (tVar 4) (tVar 5)) tNil)))))) (te := tVar 5)
        (fun _ => false) PyData.int (ea_cons (ev_len (ev_var rfl) (sq_of ha2)) ea_nil) ⟨by omega, by rw [List.length_map]; omega⟩ (fun _ => rfl) (fun x x0 x1 => ?_) (fun _ _ _ z => nomatch z) (fun _ _ _ z => nomatch z)
      · rw [List.filter_eq_nil_iff.mpr (fun _ _ => Bool.false_ne_true)] at hN
        refine s_when (et_test (ev_neNil hN rfl)) (fun z => nomatch z) (fun _ H3 e3 => ?_)
        have hacc3 := e3 _ _ hacc
        have hne : fo ≠ hd := fun z => by
          rw [z, h1] at hfo
          cases hfo
        refine ⟨.ref fo, rfl, .inl ⟨rfl, acc, sq_of hacc3⟩, fo, acc, .int 0, rfl, rfl, hacc3, sz_lt (by omega), ⟨_, _, rfl⟩, Ex.mut (e02.trans e3) (fresh_back e1 hfo), ?_⟩
        rw [upd_ne (Ne.symm hne)]
        exact e3 _ _ hh2
      · rw [List.length_map] at x1
        have hx : x = ((x.toNat : Nat) : Int) := by omega
        have hxl : x.toNat < ps.length := by omega
        have g1 : (ps.map V.int)[x.toNat]? = some (.int ps[x.toNat]) := by
          rw [List.getElem?_map, List.getElem?_eq_getElem hxl]
          rfl
        have g2 : (ps.map fun p => restD t b p)[x.toNat]? = some (restD t b ps[x.toNat]) := by
          rw [List.getElem?_map, List.getElem?_eq_getElem hxl]
          rfl
        obtain ⟨v, g3, hv⟩ := hdt.getD x.toNat g2
        refine et_not (a := true) (et_B (ev_call (vs := [vf, .int ps[x.toNat], v]) (ea_cons (ev_var rfl) (ea_cons (ev_op (ev_var rfl) (ev_var (v := .int x) rfl) (rv_ixL (sq_of ha2) ?_)) (ea_cons (ev_op (ev_var rfl) (ev_var (v := .int x) rfl) (rv_ixL (sq_of hacc) ?_)) ea_nil))) fun H3 e3 Q' q' E' => ⟨vf, v, t, b, ps[x.toNat], rfl, (hf.up e02).up e3, hbs, hp _ (List.getElem_mem hxl), hv.up e3, q' H3 (Ex.refl H3)⟩))
        · exact atI_of x0 g1
        · exact atI_of x0 g3
    · obtain ⟨⟨y3, y4, rfl⟩, e1, h1⟩ := hP
      exact q H1 e1
theorem prime_mod {σ : L2.St} {H : Hp} {a : Addr} {t b c p : Int} {v : Int} (hf : σ[4]? = some (some (.ref a))) (ha : H a = some (.tup [.int t, .int b])) (hc : atI [V.int t, V.int b] c = some (.int v)) (hp : σ[6]? = some (some (.int p))) (h0 : 0 < p) :
    EvT (tTest (tOp rEq (tOp (rI (fun _ j => 0 < j) fun i j => .int (i % j)) (tOp (rIxT K) (tVar 4) (tC (.int c))) (tVar 6)) (tC (.int 0)))) σ H (decide (v % p = 0)) := by
  have h := rv_eq (H := H) (x := .int (v % p)) (y := .int 0) rfl
  rw [dI] at h
  exact et_test (ev_op (ev_op (ev_op (ev_var hf) ev_c (rv_ixT (st_of ha) hc)) (ev_var hp) (rv_I (C := fun _ j => 0 < j) h0)) ev_c h)
/-- some + [p for p in primes if f[c] % p == 0][:k] -/
theorem more_primes {σ : L2.St} {H : Hp} {sa la a : Addr} {t b c v k : Int} {m : Nat} {Q : VK} (h5 : σ[5]? = some (some (.ref sa))) (hs : PrL H sa m) (h1 : σ[1]? = some (some (.ref la))) (hl : H la = some (.lst (primesL.map V.int)))
    (hf : ∀ x, ((wipe σ [6]).set 6 (some x))[4]? = some (some (.ref a))) (hx : ∀ x, ((wipe σ [6]).set 6 (some x))[6]? = some (some x)) (hw : ∀ x, wipe ((wipe σ [6]).set 6 (some x)) [6] = wipe σ [6]) (ha : H a = some (.tup [.int t, .int b])) (hc : atI [V.int t, V.int b] c = some (.int v)) (hm : m ≤ 1000)
    (q : ∀ p H2, H p = none → Ex H H2 → PrL H2 p (m + 168) → Q (.ref p) H2) :
    tOp rCat (tVar 5) (tSl (rSlL K) (tLc (iList K (tVar 1)) (gName 6) (tTest (tOp rEq (tOp (rI (fun _ j => 0 < j) fun i j => .int (i % j)) (tOp (rIxT K) (tVar 4) (tC (.int c))) (tVar 6)) (tC (.int 0)))) (tVar 6) [6]) tNoPart (tPart (tC (.int k)))) σ H Q := by
  obtain ⟨qs, g1, g2, g3⟩ := hs
  refine ⟨.ref sa, h5, ?_⟩
  have hN : EvN (tLc (iList K (tVar 1)) (gName 6) (tTest (tOp rEq (tOp (rI (fun _ j => 0 < j) fun i j => .int (i % j)) (tOp (rIxT K) (tVar 4) (tC (.int c))) (tVar 6)) (tC (.int 0)))) (tVar 6) [6]) σ H ((primesL.filter fun p => decide (v % p = 0)).map PyData.int) := by
    rw [← flt_ints (fun p => decide (v % p = 0)) (fun x => decide (v % dI0 x = 0)) (fun _ => rfl) id (fun _ => rfl)]
    refine en_lcD (fun x => decide (v % dI0 x = 0)) id (ed_var h1 (.lst hl (DtAll.ints primesL))) ?_ hw (fun H4 w d e4 hm hv => ?_) (fun H4 w d e4 hm hv _ => ed_var (hx _) hv) (fun d hm _ => ?_)
    · rw [List.length_map, primesL_len]
      decide
    · obtain ⟨p, hp, rfl⟩ := List.mem_map.mp hm
      cases hv
      have lo := primesL_lo hp
      exact prime_mod (K := K) (hf _) (e4 _ _ ha) hc (p := p) (hx _) (by omega)
    · obtain ⟨p, hp, rfl⟩ := List.mem_map.mp hm
      rfl
  refine hN H (Ex.refl H) _ fun D H1 hD e1 a1 => ?_
  obtain ⟨acc, hacc, hdt, _⟩ := a1
  have ei := DtAll.ints_eq _ hdt
  subst ei
  obtain ⟨rs, er, r1, r2⟩ := cut_map (primesL.filter fun p => decide (v % p = 0)) none (some k)
  refine ⟨k, rfl, D, _, rfl, sq_of hacc, fun p hp => ?_⟩
  rw [er]
  have hfl : rs.length ≤ 168 := by
    have := List.length_filter_le (fun p => decide (v % p = 0)) primesL
    rw [primesL_len] at this
    omega
  have e2 : Ex H (upd H1 p (.lst (rs.map V.int))) := e1.trans (Ex.new hp)
  refine ⟨sa, p, _, _, rfl, rfl, e2 _ _ g1, upd_same, sz_of ?_, fun w hw2 => ?_⟩
  · rw [List.length_map, List.length_map]
    omega
  · refine q w _ (fresh_back e2 hw2) (e2.trans (Ex.new hw2)) ⟨qs ++ rs, ?_, ?_, fun x hx2 => ?_⟩
    · rw [upd_same, List.map_append]
    · rw [List.length_append]
      omega
    · rcases List.mem_append.mp hx2 with z | z
      · exact g3 x z
      · exact (List.mem_filter.mp (r2 x z)).1
theorem rest_a : restD 1 2 2 = .none := restD_none (by decide)
theorem rest_b : restD 1 2 3 = .int 2 := by
  unfold restD
  rw [if_neg (by decide), restI_eq (r := 2) (by decide) (by decide) (by decide) (by decide)]
theorem rest_c : restD (-1) 1 997 = .int 996 := by
  unfold restD
  rw [if_neg (by decide), restI_eq (r := 996) (by decide) (by decide) (by decide) (by decide)]
def sp_law (K : PySem.W.Frag) : Sp := fun vs H Q _ => ∃ (a : Addr) (ns : List Int), vs = [.ref a] ∧ SqL K H a (ns.map V.int) ∧ ∀ H', Q (.bl true) H'
theorem law_start {H : Hp} {a : Addr} {ns : List Int} (hl : ns.length ≤ 63) (ho : Only H) (hS : SqL K H a (ns.map V.int)) : sp_law K [.ref a] H (fun v _ => v = .bl true) fun _ _ _ => False := ⟨a, ns, rfl, hS, fun _ => rfl⟩
theorem ok_law (T : Txt K mg z) : FnOk P w K mg base CX0 6 z.a_law z.d_law ["script"] (sp_law K) := by
  refine T.F_law.ok sc_law (fun vs H Q E h => ?_) (fun cdv A outer s H vs Q E hr h => ?_)
  · obtain ⟨a, ns, rfl, _⟩ := h
    rfl
  · obtain ⟨a, ns, rfl, hS, q⟩ := h
    refine ⟨_, (PSs.nox (pss_cons (ps_set (i := 1) sc_law.nd rfl (.inr rfl) (pe_call0 (ok__law_all_primes T) (hr.mono (by decide)) (by rfl) T.g__law_all_primes T.F__law_all_primes.kp T.b__law_all_primes .nil pass0))
      (pss_cons (ps_for PassesOwn.never rfl (pi_range1 (by rfl) T.m_range (pa_cons (pe_callB (call_max2 rfl) (by rfl) T.m_max (by decide +kernel) (pa_cons pe_int (pa_cons (pe_callB (call_min2 rfl) (by rfl) T.m_min (by decide +kernel) (pa_cons pe_int (pa_cons (pe_callB (r := rLenS K) call_len_seq (by rfl) T.m_len (by decide +kernel) (pa_cons (pv 0) pa_nil)) pa_nil))) pa_nil))) pa_nil)) (pg_name (i := 2) sc_law.nd rfl (.inl rfl)) (pss_cons (ps_set (i := 3) sc_law.nd rfl (.inr rfl) (pe_call (ok__law_pool T) (hr.mono (by decide)) (by rfl) T.g__law_pool T.F__law_pool.kp T.b__law_pool .nil pass0 (pa_cons (pv 0) (pa_cons (pv 2) pa_nil))))
      (pss_cons (ps_set (i := 4) sc_law.nd rfl (.inr rfl) (pe_call (ok__law_fraction T) (hr.mono (by decide)) (by rfl) T.g__law_fraction T.F__law_fraction.kp T.b__law_fraction .nil pass0 (pa_cons (pv 3) (pa_cons (pv 1) pa_nil))))
      (pss_cons (ps_setLc (i := 5) (own := [("turn", 10)]) (by rfl) sc_law.nd rfl rfl (sw_true rfl rfl rfl (by decide +kernel)) (pi_range1 (by rfl) T.m_range (pa_cons pe_int pa_nil)) (blkOk_by (own := [("turn", 10)]) (N := N_law) (sc := (defScope s_law)) (by decide +kernel)) (fun _ _ _ _ _ => (pg_name (i := 10) sc_law.nd rfl (.inl rfl))) (fun _ _ _ _ _ => pts_nil) (fun _ _ _ _ _ => (pe_call (ok__law_prime T) (hr.mono (by decide)) (by rfl) T.g__law_prime T.F__law_prime.kp T.b__law_prime .nil pass0 (pa_cons (pv 3) (pa_cons (pv 1) pa_nil)))))
      (pss_cons (ps_set (i := 5) sc_law.nd rfl (.inl rfl) (pe_op op_cat (pv 5) (pe_slice (r := rSlL K) sl_list (pe_lc (own := [("p", 6)]) (by rfl) sc_law.nd (pi_listK K (pv 1)) (blkOk_by (own := [("p", 6)]) (N := N_law) (sc := (defScope s_law)) (by decide +kernel)) (fun _ _ _ _ _ => (pg_name (i := 6) sc_law.nd rfl (.inl rfl))) (fun _ _ _ _ _ => (pts_one (pt_cmpR op_eq (pe_op op_mod (pe_ix (r := rIxT K) ix_tup (pv 4) pe_int (fun _ _ => rfl)) (pv 6)) pe_int (nomark _)))) (fun _ _ _ _ _ => (pv 6))) po_none (po_some pe_int))))
      (pss_cut (ps_if (pt_cmpR op_ne (pe_ix (r := rIxT K) ix_tup (pv 4) pe_int (fun _ _ => rfl)) pe_int (nomark _)) (pss_one (ps_set (i := 5) sc_law.nd rfl (.inl rfl) (pe_op op_cat (pv 5) (pe_slice (r := rSlL K) sl_list (pe_lc (own := [("p", 6)]) (by rfl) sc_law.nd (pi_listK K (pv 1)) (blkOk_by (own := [("p", 6)]) (N := N_law) (sc := (defScope s_law)) (by decide +kernel)) (fun _ _ _ _ _ => (pg_name (i := 6) sc_law.nd rfl (.inl rfl))) (fun _ _ _ _ _ => (pts_one (pt_cmpR op_eq (pe_op op_mod (pe_ix (r := rIxT K) ix_tup (pv 4) pe_int (fun _ _ => rfl)) (pv 6)) pe_int (nomark _)))) (fun _ _ _ _ _ => (pv 6))) po_none (po_some pe_int))))) pss_nil)
      (pss_cons (ps_for PassesOwn.never rfl (pi_listK K (pv 5)) (pg_name (i := 6) sc_law.nd rfl (.inl rfl)) (pss_one (ps_for PassesOwn.never rfl (pi_range1 (by rfl) T.m_range (pa_cons pe_int pa_nil)) (pg_name (i := 7) sc_law.nd rfl (.inl rfl)) (pss_one (ps_if (pt_not (pt_val (pe_call (ok__law_right T) (hr.mono (by decide)) (by rfl) T.g__law_right T.F__law_right.kp T.b__law_right .nil pass0 (pa_cons (pv 4) (pa_cons (pv 6) (pa_cons (pe_call (ok_rest_of T) (hr.mono (by decide)) (by rfl) T.g_rest_of T.F_rest_of.kp T.b_rest_of .nil pass0 (pa_cons (pv 4) (pa_cons (pv 6) pa_nil))) pa_nil)))))) (pss_one (ps_ret pe_bl)) pss_nil)))))
      (pss_cons (ps_set (i := 8) sc_law.nd rfl (.inl rfl) (pe_ix (r := rIxL K) ix_list (pe_lst (pa_cons (pe_call (ok__law_take T) (hr.mono (by decide)) (by rfl) T.g__law_take T.F__law_take.kp T.b__law_take .nil pass0 (pa_cons (pv 3) (pa_cons pe_int pa_nil))) (pa_cons (pe_call (ok__law_take T) (hr.mono (by decide)) (by rfl) T.g__law_take T.F__law_take.kp T.b__law_take .nil pass0 (pa_cons (pv 3) (pa_cons pe_int pa_nil))) (pa_cons pe_int pa_nil)))) (pe_call (ok__law_take T) (hr.mono (by decide)) (by rfl) T.g__law_take T.F__law_take.kp T.b__law_take .nil pass0 (pa_cons (pv 3) (pa_cons pe_int pa_nil))) (fun _ _ => rfl)))
      (pss_one (ps_for PassesOwn.never rfl (pi_listK K (pe_lst (pa_cons (pe_lc (own := [("turn", 10)]) (by rfl) sc_law.nd (pi_range1 (by rfl) T.m_range (pa_cons (pv 8) pa_nil)) (blkOk_by (own := [("turn", 10)]) (N := N_law) (sc := (defScope s_law)) (by decide +kernel)) (fun _ _ _ _ _ => (pg_name (i := 10) sc_law.nd rfl (.inl rfl))) (fun _ _ _ _ _ => pts_nil) (fun _ _ _ _ _ => (pe_call (ok__law_prime T) (hr.mono (by decide)) (by rfl) T.g__law_prime T.F__law_prime.kp T.b__law_prime .nil pass0 (pa_cons (pv 3) (pa_cons (pv 1) pa_nil))))) (pa_cons (pv 5) (pa_cons (pe_op op_cat (pe_revLK K (pv 5)) (pe_slice (r := rSlL K) sl_list (pv 5) po_none (po_some pe_int))) (pa_cons (pe_lst pa_nil) pa_nil)))))) (pg_name (i := 9) sc_law.nd rfl (.inl rfl)) (pss_one (ps_if (pt_not (pt_val (pe_call (ok__law_list_right T) hr (by rfl) T.g__law_list_right T.F__law_list_right.kp T.b__law_list_right .nil pass0 (pa_cons (pv 4) (pa_cons (pv 9) pa_nil))))) (pss_one (ps_ret pe_bl)) pss_nil))))))))))))
      (pss_one (ps_ret (pe_and (pe_cmpR op_isN (pe_call (ok_rest_of T) (hr.mono (by decide)) (by rfl) T.g_rest_of T.F_rest_of.kp T.b_rest_of .nil pass0 (pa_cons (pe_tup (pa_cons pe_int (pa_cons pe_int pa_nil))) (pa_cons pe_int pa_nil))) pe_non (nomark _)) (pe_and (pe_cmpR op_eq (pe_call (ok_rest_of T) (hr.mono (by decide)) (by rfl) T.g_rest_of T.F_rest_of.kp T.b_rest_of .nil pass0 (pa_cons (pe_tup (pa_cons pe_int (pa_cons pe_int pa_nil))) (pa_cons pe_int pa_nil))) pe_int (nomark _)) (pe_one (pe_cmpR op_eq (pe_call (ok_rest_of T) (hr.mono (by decide)) (by rfl) T.g_rest_of T.F_rest_of.kp T.b_rest_of .nil pass0 (pa_cons (pe_tup (pa_cons (pe_un un_neg pe_int) (pa_cons pe_int pa_nil))) (pa_cons pe_int pa_nil))) pe_int (nomark _)))))))))), ?_⟩
    refine ⟨rfl, fun la H0 hla0 e0 aa0 => ?_⟩
    obtain ⟨acc0, hl0, hdt0, _⟩ := aa0
    have ei0 := DtAll.ints_eq _ hdt0
    subst ei0
    obtain ⟨t1, t2⟩ := turns_ok 10 ((ns.map V.int).length : Int) (by decide) (Int.natCast_nonneg _)
    refine ⟨.ref a, rfl, a, _, rfl, .inl (ex_l e0 hS), 10, _, rfl, 1, _, rfl, _, rfl, ?_, ?_, ?_⟩
    · show -(2 ^ 62) ≤ (if (if ((ns.map V.int).length : Int) < 10 then ((ns.map V.int).length : Int) else 10) > 1 then (if ((ns.map V.int).length : Int) < 10 then ((ns.map V.int).length : Int) else 10) else 1)
      omega
    · show (if (if ((ns.map V.int).length : Int) < 10 then ((ns.map V.int).length : Int) else 10) > 1 then (if ((ns.map V.int).length : Int) < 10 then ((ns.map V.int).length : Int) else 10) else 1) < 2 ^ 62
      omega
    generalize (if (if ((ns.map V.int).length : Int) < 10 then ((ns.map V.int).length : Int) else 10) > 1 then (if ((ns.map V.int).length : Int) < 10 then ((ns.map V.int).length : Int) else 10) else 1) = J at t1 t2
    refine for_range (lo := 0) (n := J.toNat) (fun i σ H' => (∃ y2 y3 y4 y5 y6 y7 y8 y9, σ = [some (.ref a), some (.ref la), y2, y3, y4, y5, y6, y7, y8, y9, none]) ∧ Ex H0 H') ⟨⟨none, none, none, none, none, none, none, none, rfl⟩, Ex.refl H0⟩ (fun i σ H1 hi hP => ?_) (fun σ H1 hP => ?_)
    · obtain ⟨⟨y2, y3, y4, y5, y6, y7, y8, y9, rfl⟩, e1⟩ := hP
      have hk : (0 : Int) ≤ 0 + (i : Int) ∧ 0 + (i : Int) < 100 := by omega
      generalize (0 : Int) + (i : Int) = k at hk ⊢
      -- pool = _law_pool(script, k)
      refine ⟨.ref a, rfl, .int k, rfl, a, ns, k, rfl, ex_l (e0.trans e1) hS, hk.1, hk.2, fun pa H2 hpa e2 pb => ?_⟩
      have hpa0 : H0 pa = none := fresh_back e1 hpa
      have g2 : Ex H0 H2 := e1.trans e2
      have hne : la ≠ pa := fun z => by
        rw [← z, hl0] at hpa0
        cases hpa0
      -- f = _law_fraction(pool, primes)
      refine ⟨.ref pa, rfl, .ref la, rfl, pa, la, 999999970, rfl, g2 _ _ hl0, hne, pb, fun t b fa H3 hF pb3 e3 hfa0 hfa => ?_⟩
      have g3 : Ex H0 H3 := g2.keepB hpa0 e3
      obtain ⟨b0, b1, tt1, tt0, hg⟩ := hF
      -- some = [_law_prime(pool, primes) for turn in range(8)]
      dsimp only [gName_app]
      refine go_asg (lc_primes (σ := [some (.ref a), some (.ref la), some (.int k), some (.ref pa), some (.ref fa), y5, y6, y7, y8, y9, none]) (j := 10) (ip := 3) (il := 1) (m := 8) (n := 999999954) (pa := pa) (la := la) (ea_cons ev_c ea_nil) ⟨by decide, by decide⟩ (fun _ => rfl) (fun _ => rfl) (fun _ => rfl) (g3 _ _ hl0) hne pb3 (fun D qs H4 hD hq1 hq2 hD4 pb4 e4 => ?_))
      have g4 : Ex H0 H4 := g3.keepB hpa0 e4
      have hfpa : fa ≠ pa := fun z => by
        obtain ⟨xs, hx⟩ := pb3.isL
        rw [z, hx] at hfa
        cases hfa
      have hfa4 := e4 _ _ hfpa hfa
      -- some = some + [..][:8]
      refine go_asg (more_primes (K := K) (σ := [some (.ref a), some (.ref la), some (.int k), some (.ref pa), some (.ref fa), some (.ref D), y6, y7, y8, y9, none]) (a := fa) (t := t) (b := b) (v := b) (m := 8) rfl ⟨qs, hD4, by rw [hq1]; decide, hq2⟩ rfl (g4 _ _ hl0) (fun _ => rfl) (fun _ => rfl) (fun _ => rfl) hfa4 rfl (by decide) (fun s1 H5 hs1 e5 hp5 => ?_))
      have g5 := g4.trans e5
      have pb5 := pb4.up e5
      have hfa5 := e5 _ _ hfa4
      have hs1n : s1 ≠ pa := pb4.ne hs1
      -- if f[0] != 0
      refine ⟨fun σ H' => ∃ (sa : Addr) (y6 : Option V), σ = [some (.ref a), some (.ref la), some (.int k), some (.ref pa), some (.ref fa), some (.ref sa), y6, y7, y8, y9, none] ∧ Ex H0 H' ∧ PoolB H' pa 999999954 ∧ H' fa = some (.tup [.int t, .int b]) ∧ PrL H' sa 344 ∧ sa ≠ pa, ?_, fun σ H6 hM => ?_⟩
      · refine ⟨.ref fa, rfl, fa, _, 0, .int t, rfl, rfl, .inl (.inl hfa5), rfl, rfl, _, rfl, it2 (fun _ => ?_) (fun _ => ?_)⟩
        · refine go_asgL (more_primes (K := K) (σ := [some (.ref a), some (.ref la), some (.int k), some (.ref pa), some (.ref fa), some (.ref s1), y6, y7, y8, y9, none]) (a := fa) (t := t) (b := b) (v := t) (m := 8 + 168) rfl hp5 rfl (g5 _ _ hl0) (fun _ => rfl) (fun _ => rfl) (fun _ => rfl) hfa5 rfl (by decide) (fun s2 H6 hs2 e6 hp6 => ?_))
          exact ⟨s2, _, rfl, g5.trans e6, pb5.up e6, e6 _ _ hfa5, hp6.less (by decide), pb5.ne hs2⟩
        · exact ⟨s1, _, rfl, g5, pb5, hfa5, hp5.less (by decide), hs1n⟩
      · obtain ⟨sa, z6, rfl, g6, pb6, hfa6, hp6, hsn⟩ := hM
        obtain ⟨ss, hs61, hs62, hs63⟩ := id hp6
        have wt : t.natAbs < 2 ^ 250 := Nat.lt_of_lt_of_le (show t.natAbs < 2 ^ 120 by omega) (by decide)
        have wb : b.natAbs < 2 ^ 250 := Nat.lt_of_lt_of_le (show b.natAbs < 2 ^ 120 by omega) (by decide)
        -- for p in some: for again in range(2)
        refine ⟨.ref sa, rfl, sa, rfl, ⟨_, .inl (.inl hs61)⟩, for_list (xs := ss.map V.int) (fun i σ H' => (∃ y6 y7, σ = [some (.ref a), some (.ref la), some (.int k), some (.ref pa), some (.ref fa), some (.ref sa), y6, y7, y8, y9, none]) ∧ Ex H6 H') ⟨⟨_, _, rfl⟩, Ex.refl H6⟩ (fun i σ H' _ hP => .inl (.inl (hP.2 _ _ hs61))) (fun i x σ H7 hi7 hP => ?_) (fun σ H7 hP => ?_)⟩
        · obtain ⟨⟨w6, w7, rfl⟩, e7⟩ := hP
          obtain ⟨p, hpm, rfl⟩ := List.mem_map.mp (List.mem_of_getElem? hi7)
          have hpp := primesL_prime p (hs63 p hpm)
          refine ⟨2, rfl, by decide, by decide, for_range (lo := 0) (n := 2) (fun i σ H' => (∃ y7, σ = [some (.ref a), some (.ref la), some (.int k), some (.ref pa), some (.ref fa), some (.ref sa), some (.int p), y7, y8, y9, none]) ∧ Ex H6 H') ⟨⟨_, rfl⟩, e7⟩ (fun i σ H8 hi8 hP => ?_) (fun σ H8 hP => ?_)⟩
          · obtain ⟨⟨v7, rfl⟩, e8⟩ := hP
            have hd8 : Dt H8 (.ref fa) (.tuple [.int t, .int b]) := .tup (e8 _ _ hfa6) (.cons (.int _) (.cons (.int _) .nil))
            refine ⟨.ref fa, rfl, .int p, rfl, .ref fa, rfl, .int p, rfl, .ref fa, t, b, p, rfl, hd8, b0, hg, wt, hpp, fun v9 H9 e9 hv9 => ?_⟩
            refine ⟨.ref fa, v9, t, b, p, rfl, hd8.up e9, wb, hpp, hv9, true, rfl, itF rfl ?_⟩
            exact ⟨⟨_, rfl⟩, e8.trans e9⟩
          · obtain ⟨⟨v7, rfl⟩, e8⟩ := hP
            exact ⟨⟨_, _, rfl⟩, e8⟩
        · obtain ⟨⟨w6, w7, rfl⟩, e7⟩ := hP
          have g7 := g6.trans e7
          -- many = [..][_law_take(pool, 3)]
          refine ⟨.ref pa, rfl, pa, 8, 999999953, rfl, by decide, by decide, pb6.up e7, fun m1 Ha l1 u1 pba ea => ?_⟩
          refine ⟨.ref pa, rfl, pa, 61, 999999952, rfl, by decide, by decide, pba, fun m2 Hb l2 u2 pbb eb => ?_⟩
          refine ⟨sz_of (Nat.le_of_ble_eq_true rfl), fun ml hml => ?_⟩
          refine ⟨.ref pa, rfl, pa, 3, 999999951, rfl, by decide, by decide, pbb.dr hml, fun m3 Hc l3 u3 pbc ec => ?_⟩
          have gc : Ex H0 Hc := (((g7.keepB hpa0 ea).keepB hpa0 eb).trans (Ex.new hml)).keepB hpa0 ec
          have eB : ExB pa H6 Hc := (((ExB.of e7).trans ea).trans (eb.trans (ExB.of (Ex.new hml)))).trans ec
          have hmlc : Hc ml = some (.lst [.int m1, .int m2, .int 60]) := ec _ _ (pbb.ne hml) upd_same
          obtain ⟨mm, hmm, hm0, hm1⟩ : ∃ mm : Int, atI [V.int m1, V.int m2, V.int 60] m3 = some (.int mm) ∧ 0 ≤ mm ∧ mm ≤ 60 := by
            rcases (show m3 = 0 ∨ m3 = 1 ∨ m3 = 2 by omega) with rfl | rfl | rfl
            · exact ⟨m1, rfl, by omega, by omega⟩
            · exact ⟨m2, rfl, by omega, by omega⟩
            · exact ⟨60, rfl, by decide, by decide⟩
          refine ⟨ml, _, m3, .int mm, rfl, rfl, sq_of hmlc, hmm, ?_⟩
          have hfac := eB _ _ hfpa hfa6
          have hpc : PrL Hc sa 344 := hp6.dr hsn eB
          -- for row in [..]
          dsimp only [gName_app]
          unfold tFor iList tLst
          dsimp only
          refine go_cons (lc_primes (σ := [some (.ref a), some (.ref la), some (.int k), some (.ref pa), some (.ref fa), some (.ref sa), w6, w7, some (.int mm), y9, none]) (j := 10) (ip := 3) (il := 1) (m := mm) (n := 900000000) (pa := pa) (la := la) (ea_cons (ev_var rfl) ea_nil) ⟨hm0, by omega⟩ (fun _ => rfl) (fun _ => rfl) (fun _ => rfl) (gc _ _ hl0) hne (pbc.less (by omega)) (fun D1 qs1 Hd hD1 hq1 hq2 hD1d pbd ed => ?_))
          have gd : Ex H0 Hd := gc.keepB hpa0 ed
          have hfad := ed _ _ hfpa hfac
          have hpd : PrL Hd sa 344 := hpc.dr hsn ed
          have hr1 : PrL Hd D1 344 := ⟨qs1, hD1d, by omega, hq2⟩
          obtain ⟨sd, hsd1, hsd2, hsd3⟩ := id hpd
          -- some, some[::-1] + some[:3], []
          refine ⟨.ref sa, rfl, .ref sa, rfl, sa, _, rfl, sq_of hsd1, fun r1 hr1n => ?_⟩
          have x1 : Ex Hd (upd Hd r1 (.lst (sd.map V.int).reverse)) := Ex.new hr1n
          refine ⟨.ref sa, rfl, 3, rfl, sa, _, rfl, sq_of (x1 _ _ hsd1), fun r2 hr2n => ?_⟩
          obtain ⟨cs, ec1, ec2, ec3⟩ := cut_map sd none (some 3)
          rw [ec1]
          have x2 : Ex (upd Hd r1 (.lst (sd.map V.int).reverse)) (upd (upd Hd r1 (.lst (sd.map V.int).reverse)) r2 (.lst (cs.map V.int))) := Ex.new hr2n
          refine ⟨r1, r2, _, _, rfl, rfl, x2 _ _ upd_same, upd_same, sz_of ?_, fun r3 hr3n => ?_⟩
          · rw [List.length_reverse, List.length_map, List.length_map]
            omega
          have x3 : Ex (upd (upd Hd r1 (.lst (sd.map V.int).reverse)) r2 (.lst (cs.map V.int))) (upd (upd (upd Hd r1 (.lst (sd.map V.int).reverse)) r2 (.lst (cs.map V.int))) r3 (.lst ((sd.map V.int).reverse ++ cs.map V.int))) := Ex.new hr3n
          have x123 := (x1.trans x2).trans x3
          have hr3 : PrL (upd (upd (upd Hd r1 (.lst (sd.map V.int).reverse)) r2 (.lst (cs.map V.int))) r3 (.lst ((sd.map V.int).reverse ++ cs.map V.int))) r3 1000 := by
            refine ⟨sd.reverse ++ cs, ?_, ?_, fun x hx => ?_⟩
            · rw [upd_same, List.map_append, List.map_reverse]
            · rw [List.length_append, List.length_reverse]
              omega
            · rcases List.mem_append.mp hx with z | z
              · exact hsd3 x (List.mem_reverse.mp z)
              · exact hsd3 x (ec3 x z)
          generalize upd (upd (upd Hd r1 (.lst (sd.map V.int).reverse)) r2 (.lst (cs.map V.int))) r3 (.lst ((sd.map V.int).reverse ++ cs.map V.int)) = He at x123 hr3
          refine ⟨Nat.zero_le _, fun r4 hr4n => ?_⟩
          refine ⟨sz_of (Nat.le_of_ble_eq_true rfl), fun dl hdl => ?_⟩
          have x4 : Ex He (upd He r4 (.lst [])) := Ex.new hr4n
          have x5 : Ex (upd He r4 (.lst [])) (upd (upd He r4 (.lst [])) dl (.lst [.ref D1, .ref sa, .ref r3, .ref r4])) := Ex.new hdl
          have x45 := x4.trans x5
          have hdl5 : (upd (upd He r4 (.lst [])) dl (.lst [.ref D1, .ref sa, .ref r3, .ref r4])) dl = some (.lst [.ref D1, .ref sa, .ref r3, .ref r4]) := upd_same
          have hall : ∀ x ∈ [V.ref D1, V.ref sa, V.ref r3, V.ref r4], ∃ ra : Addr, x = .ref ra ∧ PrL (upd (upd He r4 (.lst [])) dl (.lst [.ref D1, .ref sa, .ref r3, .ref r4])) ra 1000 := by
            intro x hx
            rcases List.mem_cons.mp hx with rfl | hx
            · exact ⟨D1, rfl, ((hr1.up x123).up x45).less (by decide)⟩
            rcases List.mem_cons.mp hx with rfl | hx
            · exact ⟨sa, rfl, ((hpd.up x123).up x45).less (by decide)⟩
            rcases List.mem_cons.mp hx with rfl | hx
            · exact ⟨r3, rfl, hr3.up x45⟩
            rcases List.mem_cons.mp hx with rfl | hx
            · exact ⟨r4, rfl, [], x5 _ _ upd_same, Nat.zero_le _, fun x hx => nomatch hx⟩
            · cases hx
          have hfaf := x45 _ _ (x123 _ _ hfad)
          have gf := (gd.trans x123).trans x45
          generalize (upd (upd He r4 (.lst [])) dl (.lst [.ref D1, .ref sa, .ref r3, .ref r4])) = Hf at hdl5 hall hfaf gf
          refine ⟨dl, rfl, ⟨_, sq_of hdl5⟩, for_list (K := K) (xs := [.ref D1, .ref sa, .ref r3, .ref r4]) (g := gName 9) (tb := tIfS (tNot (tB (tCall sp__law_list_right [] E0 (tCons (tVar 4) (tCons (tVar 9) tNil))))) (tRet (tC (.bl false))) tNext) (D := { nx := fun σ H' => (∃ y2 y3 y4 y5 y6 y7 y8 y9, σ = [some (.ref a), some (.ref la), y2, y3, y4, y5, y6, y7, y8, y9, none]) ∧ Ex H0 H', rt := Q }) (fun i σ H' => (∃ y9, σ = [some (.ref a), some (.ref la), some (.int k), some (.ref pa), some (.ref fa), some (.ref sa), w6, w7, some (.int mm), y9, none]) ∧ Ex Hf H') ⟨⟨_, rfl⟩, Ex.refl Hf⟩ (fun i σ H' _ hP => sq_of (hP.2 _ _ hdl5)) (fun i x σ Hg hig hP => ?_) (fun σ Hg hP => ?_)⟩
          · obtain ⟨⟨v9, rfl⟩, eg⟩ := hP
            obtain ⟨ra, rfl, rs, hra1, hra2, hra3⟩ := hall x (List.mem_of_getElem? hig)
            have hdg : Dt Hg (.ref fa) (.tuple [.int t, .int b]) := .tup (eg _ _ hfaf) (.cons (.int _) (.cons (.int _) .nil))
            refine ⟨.ref fa, rfl, .ref ra, rfl, .ref fa, ra, t, b, rs, rfl, hdg, b0, hg, wt, wb, eg _ _ hra1, by omega, fun p hp => primesL_prime p (hra3 p hp), fun Hh eh => ⟨true, rfl, itF rfl ?_⟩⟩
            exact ⟨⟨_, rfl⟩, eg.trans eh⟩
          · obtain ⟨⟨v9, rfl⟩, eg⟩ := hP
            exact ⟨⟨_, _, _, _, _, _, _, _, rfl⟩, gf.trans eg⟩
    · obtain ⟨⟨y2, y3, y4, y5, y6, y7, y8, y9, rfl⟩, e1⟩ := hP
      refine ⟨sz_of (Nat.le_of_ble_eq_true rfl), fun p1 hp1 => ?_⟩
      refine ⟨.ref p1, 1, 2, 2, rfl, .tup upd_same (.cons (.int _) (.cons (.int _) .nil)), by decide, by decide, by decide, by decide, fun v1 H2 e2 hv1 => ?_⟩
      rw [rest_a] at hv1
      cases hv1
      refine ⟨rfl, true, rfl, itT rfl ?_⟩
      refine ⟨sz_of (Nat.le_of_ble_eq_true rfl), fun p3 hp3 => ?_⟩
      refine ⟨.ref p3, 1, 2, 3, rfl, .tup upd_same (.cons (.int _) (.cons (.int _) .nil)), by decide, by decide, by decide, by decide, fun v3 H4 e4 hv3 => ?_⟩
      rw [rest_b] at hv3
      cases hv3
      refine ⟨rfl, true, rfl, itT rfl ?_⟩
      refine ⟨1, rfl, sz_of (Nat.le_of_ble_eq_true rfl), fun p5 hp5 => ?_⟩
      refine ⟨.ref p5, -1, 1, 997, rfl, .tup upd_same (.cons (.int _) (.cons (.int _) .nil)), by decide, by decide, by decide, by decide, fun v5 H6 e6 hv5 => ?_⟩
      rw [rest_c] at hv5
      cases hv5
      refine ⟨rfl, ?_⟩
      exact q _
end
set_option maxHeartbeats 0
def dd_is_whole : He.DefD := ⟨("is_whole", none), "is_whole", "is_whole", defArgs s_is_whole, defBody s_is_whole, defScope s_is_whole, [], []⟩
def dd_common_divisor : He.DefD := ⟨("common_divisor", none), "common_divisor", "common_divisor", defArgs s_common_divisor, defBody s_common_divisor, defScope s_common_divisor, [], []⟩
def dd_short_row : He.DefD := ⟨("short_row", none), "short_row", "short_row", defArgs s_short_row, defBody s_short_row, defScope s_short_row, [], []⟩
def dd_inverse : He.DefD := ⟨("inverse", none), "inverse", "inverse", defArgs s_inverse, defBody s_inverse, defScope s_inverse, [], []⟩
def dd_is_pair : He.DefD := ⟨("is_pair", none), "is_pair", "is_pair", defArgs s_is_pair, defBody s_is_pair, defScope s_is_pair, [], []⟩
def dd_is_fraction : He.DefD := ⟨("is_fraction", none), "is_fraction", "is_fraction", defArgs s_is_fraction, defBody s_is_fraction, defScope s_is_fraction, [], []⟩
def dd_is_prime : He.DefD := ⟨("is_prime", none), "is_prime", "is_prime", defArgs s_is_prime, defBody s_is_prime, defScope s_is_prime, [], []⟩
def dd_need_fraction : He.DefD := ⟨("need_fraction", none), "need_fraction", "need_fraction", defArgs s_need_fraction, defBody s_need_fraction, defScope s_need_fraction, [], []⟩
def dd_need_prime : He.DefD := ⟨("need_prime", none), "need_prime", "need_prime", defArgs s_need_prime, defBody s_need_prime, defScope s_need_prime, [], []⟩
def dd_rest_by : He.DefD := ⟨("rest_by", none), "rest_by", "rest_by", defArgs s_rest_by, defBody s_rest_by, defScope s_rest_by, [], []⟩
def dd_rest_of : He.DefD := ⟨("rest_of", none), "rest_of", "rest_of", defArgs s_rest_of, defBody s_rest_of, defScope s_rest_of, [], []⟩
def dd_rests_of : He.DefD := ⟨("rests_of", none), "rests_of", "rests_of", defArgs s_rests_of, defBody s_rests_of, defScope s_rests_of, [], []⟩
def dd__law_pool : He.DefD := ⟨("_law_pool", none), "_law_pool", "_law_pool", defArgs s__law_pool, defBody s__law_pool, defScope s__law_pool, [], []⟩
def dd__law_take : He.DefD := ⟨("_law_take", none), "_law_take", "_law_take", defArgs s__law_take, defBody s__law_take, defScope s__law_take, [], []⟩
def dd__law_far : He.DefD := ⟨("_law_far", none), "_law_far", "_law_far", defArgs s__law_far, defBody s__law_far, defScope s__law_far, [], []⟩
def dd__law_number : He.DefD := ⟨("_law_number", none), "_law_number", "_law_number", defArgs s__law_number, defBody s__law_number, defScope s__law_number, [], []⟩
def dd__law_all_primes : He.DefD := ⟨("_law_all_primes", none), "_law_all_primes", "_law_all_primes", defArgs s__law_all_primes, defBody s__law_all_primes, defScope s__law_all_primes, [], []⟩
def dd__law_prime : He.DefD := ⟨("_law_prime", none), "_law_prime", "_law_prime", defArgs s__law_prime, defBody s__law_prime, defScope s__law_prime, [], []⟩
def dd__law_shared : He.DefD := ⟨("_law_shared", none), "_law_shared", "_law_shared", defArgs s__law_shared, defBody s__law_shared, defScope s__law_shared, [], []⟩
def dd__law_fraction : He.DefD := ⟨("_law_fraction", none), "_law_fraction", "_law_fraction", defArgs s__law_fraction, defBody s__law_fraction, defScope s__law_fraction, [], []⟩
def dd__law_right : He.DefD := ⟨("_law_right", none), "_law_right", "_law_right", defArgs s__law_right, defBody s__law_right, defScope s__law_right, [], []⟩
def dd__law_list_right : He.DefD := ⟨("_law_list_right", none), "_law_list_right", "_law_list_right", defArgs s__law_list_right, defBody s__law_list_right, defScope s__law_list_right, [], []⟩
def dd_law : He.DefD := ⟨("law", none), "law", "law", defArgs s_law, defBody s_law, defScope s_law, [], []⟩
def fnL : List He.DefD := [dd_is_whole, dd_common_divisor, dd_short_row, dd_inverse, dd_is_pair, dd_is_fraction, dd_is_prime, dd_need_fraction, dd_need_prime, dd_rest_by, dd_rest_of, dd_rests_of, dd__law_pool, dd__law_take, dd__law_far, dd__law_number, dd__law_all_primes, dd__law_prime, dd__law_shared, dd__law_fraction, dd__law_right, dd__law_list_right, dd_law]
def faL : List He.Fa := [.glo "is_whole", .glo "common_divisor", .glo "short_row", .glo "inverse", .glo "is_pair", .glo "is_fraction", .glo "is_prime", .glo "need_fraction", .glo "need_prime", .glo "rest_by", .glo "rest_of", .glo "rests_of", .glo "_law_pool", .glo "_law_take", .glo "_law_far", .glo "_law_number", .glo "_law_all_primes", .glo "_law_prime", .glo "_law_shared", .glo "_law_fraction", .glo "_law_right", .glo "_law_list_right", .glo "law", .free "isinstance", .free "bool", .free "int", .free "len", .free "tuple", .free "list", .free "range", .free "abs", .free "max", .free "min", .int "PRIME_LIMIT" 1000, .glo "BackError", .exc "BackError", .glo "NoFraction", .exc "NoFraction", .glo "NoPrime", .exc "NoPrime"]
abbrev RR : PySem.W.OpenRow := PySem.W.OpenLaw.row PySem.Challenge.rw_toldback_k03_rests_of_fractions
def looseL : List PySem.Str := (["is_whole", "common_divisor", "short_row", "inverse", "is_pair", "is_fraction", "is_prime", "need_fraction", "need_prime", "rest_by", "rest_of", "rests_of", "_law_pool", "_law_take", "_law_far", "_law_number", "_law_all_primes", "_law_prime", "_law_shared", "_law_fraction"] : List PySem.Str) ++ (["_law_right", "_law_list_right", "PRIME_LIMIT", "BackError", "NoFraction", "NoPrime"] : List PySem.Str)
abbrev hk : PySem.W.Hook := He.hookD 4 faL fnL
def ob (s : PySem.W.SharedT) : He.AlD := He.obsDG 4 faL fnL (HandSHeadRun.getT s)
theorem ob_eq (s : PySem.W.SharedT) : ob s = hk.obs s.abs := He.obsDG_eq (HandSHeadRun.getT_eq s)
theorem run (w : World) : HandSHeadRun.RunEq RR (PySem.W.view RR.prog [30]) hk ob 4000 looseL w := by
  intro os
  kernel_rfl
theorem facts {P : Program} {w : World} {K : PySem.W.Frag} {h : Heap} {mg : Str → Option Value} {f : Addr} (X : K.In h) (G : h.Ns mainGlobals mg) (hfa : mg ("law" : Str) = some (.ref f)) (c : He.SaysD faL fnL K) :
    ∃ fd : FuncData, (∀ (s : Shared) (v : Value), BindsTo s fd ⟨[v], []⟩ [("script", v)]) ∧ ∀ base : Heap, K.In base → base.Ns mainGlobals mg → FnOk P w K mg base CX0 6 f fd ["script"] (sp_law K) := by
  obtain ⟨fd_is_whole, F_is_whole⟩ := c.def_ 0 (d := dd_is_whole) rfl
  obtain ⟨fd_common_divisor, F_common_divisor⟩ := c.def_ 1 (d := dd_common_divisor) rfl
  obtain ⟨fd_short_row, F_short_row⟩ := c.def_ 2 (d := dd_short_row) rfl
  obtain ⟨fd_inverse, F_inverse⟩ := c.def_ 3 (d := dd_inverse) rfl
  obtain ⟨fd_is_pair, F_is_pair⟩ := c.def_ 4 (d := dd_is_pair) rfl
  obtain ⟨fd_is_fraction, F_is_fraction⟩ := c.def_ 5 (d := dd_is_fraction) rfl
  obtain ⟨fd_is_prime, F_is_prime⟩ := c.def_ 6 (d := dd_is_prime) rfl
  obtain ⟨fd_need_fraction, F_need_fraction⟩ := c.def_ 7 (d := dd_need_fraction) rfl
  obtain ⟨fd_need_prime, F_need_prime⟩ := c.def_ 8 (d := dd_need_prime) rfl
  obtain ⟨fd_rest_by, F_rest_by⟩ := c.def_ 9 (d := dd_rest_by) rfl
  obtain ⟨fd_rest_of, F_rest_of⟩ := c.def_ 10 (d := dd_rest_of) rfl
  obtain ⟨fd_rests_of, F_rests_of⟩ := c.def_ 11 (d := dd_rests_of) rfl
  obtain ⟨fd__law_pool, F__law_pool⟩ := c.def_ 12 (d := dd__law_pool) rfl
  obtain ⟨fd__law_take, F__law_take⟩ := c.def_ 13 (d := dd__law_take) rfl
  obtain ⟨fd__law_far, F__law_far⟩ := c.def_ 14 (d := dd__law_far) rfl
  obtain ⟨fd__law_number, F__law_number⟩ := c.def_ 15 (d := dd__law_number) rfl
  obtain ⟨fd__law_all_primes, F__law_all_primes⟩ := c.def_ 16 (d := dd__law_all_primes) rfl
  obtain ⟨fd__law_prime, F__law_prime⟩ := c.def_ 17 (d := dd__law_prime) rfl
  obtain ⟨fd__law_shared, F__law_shared⟩ := c.def_ 18 (d := dd__law_shared) rfl
  obtain ⟨fd__law_fraction, F__law_fraction⟩ := c.def_ 19 (d := dd__law_fraction) rfl
  obtain ⟨fd__law_right, F__law_right⟩ := c.def_ 20 (d := dd__law_right) rfl
  obtain ⟨fd__law_list_right, F__law_list_right⟩ := c.def_ 21 (d := dd__law_list_right) rfl
  obtain ⟨fd_law, F_law⟩ := c.def_ 22 (d := dd_law) rfl
  obtain ⟨t_PRIME_LIMIT, c_PRIME_LIMIT⟩ := He.int_ok X G (c.fact 33 (f := .int "PRIME_LIMIT" 1000) rfl)
  have e := hfa.symm.trans (He.glo_ok X G (c.fact 22 (f := .glo "law") rfl))
  cases e
  have b := FunD.bindsA (ps := ["script"]) F_law fun _ _ _ _ _ _ us hl => match us, hl with | [_], _ => rfl
  have T : Txt K mg ⟨He.ga K "is_whole", fd_is_whole, He.ga K "common_divisor", fd_common_divisor, He.ga K "short_row", fd_short_row, He.ga K "inverse", fd_inverse, He.ga K "is_pair", fd_is_pair, He.ga K "is_fraction", fd_is_fraction, He.ga K "is_prime", fd_is_prime, He.ga K "need_fraction", fd_need_fraction, He.ga K "need_prime", fd_need_prime, He.ga K "rest_by", fd_rest_by, He.ga K "rest_of", fd_rest_of, He.ga K "rests_of", fd_rests_of, He.ga K "_law_pool", fd__law_pool, He.ga K "_law_take", fd__law_take, He.ga K "_law_far", fd__law_far, He.ga K "_law_number", fd__law_number, He.ga K "_law_all_primes", fd__law_all_primes, He.ga K "_law_prime", fd__law_prime, He.ga K "_law_shared", fd__law_shared, He.ga K "_law_fraction", fd__law_fraction, He.ga K "_law_right", fd__law_right, He.ga K "_law_list_right", fd__law_list_right, He.ga K "law", fd_law, t_PRIME_LIMIT, He.ga K "BackError", He.ga K "NoFraction", He.ga K "NoPrime"⟩ :=
    { F_is_whole := F_is_whole,
      g_is_whole := He.glo_ok X G (c.fact 0 (f := .glo "is_whole") rfl),
      b_is_whole := F_is_whole.bindsN fun _ _ _ _ _ _ us hl => match us, hl with | [_], _ => rfl,
      F_common_divisor := F_common_divisor,
      g_common_divisor := He.glo_ok X G (c.fact 1 (f := .glo "common_divisor") rfl),
      b_common_divisor := F_common_divisor.bindsN fun _ _ _ _ _ _ us hl => match us, hl with | [_, _], _ => rfl,
      F_short_row := F_short_row,
      g_short_row := He.glo_ok X G (c.fact 2 (f := .glo "short_row") rfl),
      b_short_row := F_short_row.bindsN fun _ _ _ _ _ _ us hl => match us, hl with | [_, _, _], _ => rfl,
      F_inverse := F_inverse,
      g_inverse := He.glo_ok X G (c.fact 3 (f := .glo "inverse") rfl),
      b_inverse := F_inverse.bindsN fun _ _ _ _ _ _ us hl => match us, hl with | [_, _], _ => rfl,
      F_is_pair := F_is_pair,
      g_is_pair := He.glo_ok X G (c.fact 4 (f := .glo "is_pair") rfl),
      b_is_pair := F_is_pair.bindsN fun _ _ _ _ _ _ us hl => match us, hl with | [_], _ => rfl,
      F_is_fraction := F_is_fraction,
      g_is_fraction := He.glo_ok X G (c.fact 5 (f := .glo "is_fraction") rfl),
      b_is_fraction := F_is_fraction.bindsN fun _ _ _ _ _ _ us hl => match us, hl with | [_], _ => rfl,
      F_is_prime := F_is_prime,
      g_is_prime := He.glo_ok X G (c.fact 6 (f := .glo "is_prime") rfl),
      b_is_prime := F_is_prime.bindsN fun _ _ _ _ _ _ us hl => match us, hl with | [_], _ => rfl,
      F_need_fraction := F_need_fraction,
      g_need_fraction := He.glo_ok X G (c.fact 7 (f := .glo "need_fraction") rfl),
      b_need_fraction := F_need_fraction.bindsN fun _ _ _ _ _ _ us hl => match us, hl with | [_], _ => rfl,
      F_need_prime := F_need_prime,
      g_need_prime := He.glo_ok X G (c.fact 8 (f := .glo "need_prime") rfl),
      b_need_prime := F_need_prime.bindsN fun _ _ _ _ _ _ us hl => match us, hl with | [_], _ => rfl,
      F_rest_by := F_rest_by,
      g_rest_by := He.glo_ok X G (c.fact 9 (f := .glo "rest_by") rfl),
      b_rest_by := F_rest_by.bindsN fun _ _ _ _ _ _ us hl => match us, hl with | [_, _], _ => rfl,
      F_rest_of := F_rest_of,
      g_rest_of := He.glo_ok X G (c.fact 10 (f := .glo "rest_of") rfl),
      b_rest_of := F_rest_of.bindsN fun _ _ _ _ _ _ us hl => match us, hl with | [_, _], _ => rfl,
      F_rests_of := F_rests_of,
      g_rests_of := He.glo_ok X G (c.fact 11 (f := .glo "rests_of") rfl),
      b_rests_of := F_rests_of.bindsN fun _ _ _ _ _ _ us hl => match us, hl with | [_, _], _ => rfl,
      F__law_pool := F__law_pool,
      g__law_pool := He.glo_ok X G (c.fact 12 (f := .glo "_law_pool") rfl),
      b__law_pool := F__law_pool.bindsN fun _ _ _ _ _ _ us hl => match us, hl with | [_, _], _ => rfl,
      F__law_take := F__law_take,
      g__law_take := He.glo_ok X G (c.fact 13 (f := .glo "_law_take") rfl),
      b__law_take := F__law_take.bindsN fun _ _ _ _ _ _ us hl => match us, hl with | [_, _], _ => rfl,
      F__law_far := F__law_far,
      g__law_far := He.glo_ok X G (c.fact 14 (f := .glo "_law_far") rfl),
      b__law_far := F__law_far.bindsN fun _ _ _ _ _ _ us hl => match us, hl with | [_, _], _ => rfl,
      F__law_number := F__law_number,
      g__law_number := He.glo_ok X G (c.fact 15 (f := .glo "_law_number") rfl),
      b__law_number := F__law_number.bindsN fun _ _ _ _ _ _ us hl => match us, hl with | [_], _ => rfl,
      F__law_all_primes := F__law_all_primes,
      g__law_all_primes := He.glo_ok X G (c.fact 16 (f := .glo "_law_all_primes") rfl),
      b__law_all_primes := F__law_all_primes.bindsN fun _ _ _ _ _ _ us hl => match us, hl with | [], _ => rfl,
      F__law_prime := F__law_prime,
      g__law_prime := He.glo_ok X G (c.fact 17 (f := .glo "_law_prime") rfl),
      b__law_prime := F__law_prime.bindsN fun _ _ _ _ _ _ us hl => match us, hl with | [_, _], _ => rfl,
      F__law_shared := F__law_shared,
      g__law_shared := He.glo_ok X G (c.fact 18 (f := .glo "_law_shared") rfl),
      b__law_shared := F__law_shared.bindsN fun _ _ _ _ _ _ us hl => match us, hl with | [_, _], _ => rfl,
      F__law_fraction := F__law_fraction,
      g__law_fraction := He.glo_ok X G (c.fact 19 (f := .glo "_law_fraction") rfl),
      b__law_fraction := F__law_fraction.bindsN fun _ _ _ _ _ _ us hl => match us, hl with | [_, _], _ => rfl,
      F__law_right := F__law_right,
      g__law_right := He.glo_ok X G (c.fact 20 (f := .glo "_law_right") rfl),
      b__law_right := F__law_right.bindsN fun _ _ _ _ _ _ us hl => match us, hl with | [_, _, _], _ => rfl,
      F__law_list_right := F__law_list_right,
      g__law_list_right := He.glo_ok X G (c.fact 21 (f := .glo "_law_list_right") rfl),
      b__law_list_right := F__law_list_right.bindsN fun _ _ _ _ _ _ us hl => match us, hl with | [_, _], _ => rfl,
      F_law := F_law,
      g_law := He.glo_ok X G (c.fact 22 (f := .glo "law") rfl),
      b_law := F_law.bindsN fun _ _ _ _ _ _ us hl => match us, hl with | [_], _ => rfl,
      m_isinstance := He.free_ok X G (c.fact 23 (f := .free "isinstance") rfl),
      m_bool := He.free_ok X G (c.fact 24 (f := .free "bool") rfl),
      m_int := He.free_ok X G (c.fact 25 (f := .free "int") rfl),
      m_len := He.free_ok X G (c.fact 26 (f := .free "len") rfl),
      m_tuple := He.free_ok X G (c.fact 27 (f := .free "tuple") rfl),
      m_list := He.free_ok X G (c.fact 28 (f := .free "list") rfl),
      m_range := He.free_ok X G (c.fact 29 (f := .free "range") rfl),
      m_abs := He.free_ok X G (c.fact 30 (f := .free "abs") rfl),
      m_max := He.free_ok X G (c.fact 31 (f := .free "max") rfl),
      m_min := He.free_ok X G (c.fact 32 (f := .free "min") rfl),
      c_PRIME_LIMIT := c_PRIME_LIMIT,
      k_BackError := He.glo_ok X G (c.fact 34 (f := .glo "BackError") rfl),
      x_BackError := excFacts_of (c.fact 35 (f := .exc "BackError") rfl),
      k_NoFraction := He.glo_ok X G (c.fact 36 (f := .glo "NoFraction") rfl),
      x_NoFraction := excFacts_of (c.fact 37 (f := .exc "NoFraction") rfl),
      k_NoPrime := He.glo_ok X G (c.fact 38 (f := .glo "NoPrime") rfl),
      x_NoPrime := excFacts_of (c.fact 39 (f := .exc "NoPrime") rfl) }
  exact ⟨fd_law, fun s v => b s [v] rfl, fun base _ _ => ok_law T⟩
end TB
open PySem PySem.W PySem.Calls PyProof.Rows
set_option maxHeartbeats 0 in
theorem PySem.Challenge.cw_toldback_k03_rests_of_fractions_holds : PySem.Challenge.rw_toldback_k03_rests_of_fractions.Holds := by
  w_on; o_law
  refine HandSHeadRun.head_any (r := OpenLaw.row PySem.Challenge.rw_toldback_k03_rests_of_fractions) (q := view (OpenLaw.row PySem.Challenge.rw_toldback_k03_rests_of_fractions).prog [30]) (H := TB.hk) (ob := TB.ob) (M := 4000) (loose := TB.looseL) (d := HandSHeadRun.topDef (OpenLaw.row PySem.Challenge.rw_toldback_k03_rests_of_fractions).prog 30) (kwd := []) TB.ob_eq
    (by kernel_rfl) (fun s => by kernel_rfl) TB.run (by kernel_rfl) (by kernel_rfl) (by kernel_rfl) (by rfl) (by first | assumption | decide +kernel) (by decide +kernel) ⟨rfl, rfl, rfl, rfl, rfl, by decide +kernel⟩ ?hw ?hc
  case hw => w_witness2
  case hc =>
    refine L2.walk_ofE (l := PySem.Challenge.rw_toldback_k03_rests_of_fractions) (n := 63) (k := 6) (x := "script") (CX := L2.CX0) rfl (by decide) (by kernel_rfl) ⟨rfl, by decide, by decide⟩ ?F (fun _ _ _ _ z => z)
    intro w mg fa h Y G hmg0
    obtain ⟨K, KX, c⟩ := Y
    have hmg : mg ("law" : PySem.Str) = some (.ref fa) := by
      have e : (HandSHeadRun.topDef (OpenLaw.row PySem.Challenge.rw_toldback_k03_rests_of_fractions).prog 30).name = ("law" : PySem.Str) := by kernel_rfl
      rw [← e]
      exact hmg0
    obtain ⟨fd, hb, hF⟩ := TB.facts (P := (PySem.Challenge.rw_toldback_k03_rests_of_fractions).prog) (w := w) KX G hmg c
    exact ⟨K, fd, TB.sp_law K, KX, hb, fun H a ns hl ho hS => TB.law_start hl ho hS, hF⟩
